/-
  The chapter's examples: estuarylaw10.alive.
  Nothing but one block and the row that it holds has turned; what stays then.
  What the laws on changes share: nothing but the block of a slice has turned; marked copies that are written over; errors held against none.
-/
import Derived.Test.YtodmhohccclhmaaPk09
import Derived.Lib.SmallJoins
import Derived.Test.YtodmhohccclhmaaPk05
import Derived.Test.YtodmhohccclhmaaPk04
import Derived.Test.YtodmhohccclhmaaPk02
namespace Go.Proofs.Ytodmhohccclhmaa
open Go.RowKit
set_option linter.unusedVariables false

theorem geqBB (w : World) : (binOp .eql 55 (Err 11) (Err 11)).run Try.prog w = .ok (.bool true) w := by kernel_rfl
theorem geqN0 (w : World) : (binOp .eql 55 .nilIface .nilIface).run Try.prog w = .ok (.bool true) w := by kernel_rfl
theorem gx_1 : doN ⟨2, [], [5]⟩ [] = 0 ∧ doL ⟨2, [], [5]⟩ [] = [5] := by decide +kernel
theorem gx_2 : doN ⟨2, [], [6]⟩ [5] = 11 ∧ doL ⟨2, [], [6]⟩ [5] = [5] := by decide +kernel
theorem gx_3 : doN ⟨1, [], []⟩ [5] = 0 ∧ doL ⟨1, [], []⟩ [5] = [5] := by decide +kernel
theorem gdo_at (c : Cg) (vo vn v : Value) (l m : List Int) (k : Nat) (w : World) (ho : Is w vo c.o) (hn : Is w vn c.n) (hv : Is w v l) (hl : l.length ≤ 100000) (h : doN c l = k ∧ doL c l = m) :
    Calls Try.prog 45 #[cgV c.k vo vn, v] w fun e w' => ∃ q c, e = .returned (.tuple #[.slice q m.length c, errV k]) ∧ Io w' w.heap.size (.slice q m.length c) m ∧ Below w.heap.size w w' := by
  refine (gdo_any c vo vn v l w ho hn hv hl).mono ?_
  rintro e w' ⟨⟨q, n, c, rfl, hO, hn⟩, hb⟩
  rw [h.2] at hO hn
  rw [h.1]
  subst hn
  exact ⟨q, c, rfl, hO, hb⟩
end Go.Proofs.Ytodmhohccclhmaa
namespace Go.Proofs.Ytodmhohccclhmaa
open Go.RowKit
set_option linter.unusedVariables false

/-- Nothing but the tape's own memory has turned. -/
structure Mv (b : Nat) (w w' : World) (v v' : Value) : Prop where
  os : w'.os = w.os
  tape : w'.tape = w.tape
  output : w'.output = w.output
  size : w.heap.size ≤ w'.heap.size
  other : ∀ k, k < w.heap.size → k ≠ b → v.ownBlock ≠ some k → w'.heap[k]? = w.heap[k]?
  next : ∀ r, v'.ownBlock = some r → v.ownBlock = some r ∨ w.heap.size ≤ r
theorem Mv.refl (b : Nat) (w : World) (v : Value) : Mv b w w v v := ⟨rfl, rfl, rfl, Nat.le_refl _, fun _ _ _ _ => rfl, fun _ h => .inl h⟩
theorem Mv.trans {b : Nat} {w w' w'' : World} {v v' v'' : Value} (h : Mv b w w' v v') (k : Mv b w' w'' v' v'') : Mv b w w'' v v'' :=
  ⟨k.os.trans h.os, k.tape.trans h.tape, k.output.trans h.output, Nat.le_trans h.size k.size,
   fun i hi hb hv => (k.other i (Nat.lt_of_lt_of_le hi h.size) hb (fun e => by
     rcases h.next i e with e | e
     · exact hv e
     · omega)).trans (h.other i hi hb hv),
   fun r hr => by
     rcases k.next r hr with e | e
     · exact h.next r e
     · exact .inr (Nat.le_trans h.size e)⟩
theorem mv_chg {b : Nat} {w w' : World} (v : Value) (h : Chg b w w') : Mv b w w' v v := ⟨h.os, h.tape, h.output, Nat.le_of_eq h.size.symm, fun k _ hk _ => h.other k hk, fun _ h => .inl h⟩
theorem mv_below {b : Nat} {w w' : World} (v : Value) (h : Below w.heap.size w w') : Mv b w w' v v := ⟨h.os, h.tape, h.output, h.size, fun k hk _ _ => h.block k hk, fun _ h => .inl h⟩
theorem mv_grown {b : Nat} {w w' : World} {v v' : Value} (h : w.grownBy w' v.ownBlock) (ha : v'.ownBlock = v.ownBlock ∨ v'.ownBlock = some w.heap.size) : Mv b w w' v v' :=
  ⟨h.os, h.tape, h.output, h.size, fun k hk _ hv => h.block k hk (fun e => hv e.symm), fun r hr => by
    rcases ha with e | e
    · exact .inl (by rw [← e]; exact hr)
    · rw [e] at hr; cases hr; exact .inr (Nat.le_refl _)⟩
theorem blk_own {W : World} {base b n e size : Nat} {v : Value} {xs : List Value} {vs : Array Value} {t : TypeId} (h : W.ownsRow base e size v n xs) (hB : Blk W b vs t) (hn : t ≠ e) : v.ownBlock ≠ some b := by
  intro hv
  rcases h.2 with ⟨h2, _⟩ | ⟨g, cap, cur, h2, hb, hg, _⟩
  · rw [h2] at hv; cases hv
  · rw [h2] at hv
    have hv' : g = b := by simpa [Value.ownBlock] using hv
    subst hv'
    unfold Blk at hB
    rw [hg] at hB
    cases hB
    exact hn rfl
theorem own_chgT {W W' : World} {base b n e size : Nat} {v : Value} {xs : List Value} (h : W.ownsRow base e size v n xs) (hc : Chg b W W') (hn : v.ownBlock ≠ some b) : W'.ownsRow base e size v n xs := by
  refine ⟨h.1, ?_⟩
  rcases h.2 with h2 | ⟨g, cap, cur, rfl, hb, hg, h4⟩
  · exact .inl h2
  · exact .inr ⟨g, cap, cur, rfl, hb, Blk.chg hg hc (fun e => hn (by rw [e]; rfl)), h4⟩
theorem blk_grownT {W W' : World} {b : Nat} {vs : Array Value} {t : TypeId} {row : Option Nat} (h : Blk W b vs t) (hg : W.grownBy W' row) (hn : row ≠ some b) : Blk W' b vs t := by
  unfold Blk
  rw [hg.block b h.lt (fun e => hn e.symm)]
  exact h
theorem mv_new {b : Nat} {w w' : World} {v v' : Value} (h : Below w.heap.size w w') (hn : ∀ r, v'.ownBlock = some r → w.heap.size ≤ r) : Mv b w w' v v' := ⟨h.os, h.tape, h.output, h.size, fun k hk _ _ => h.block k hk, fun r hr => .inr (hn r hr)⟩
/-- Bytes that stay whatever the tape does. -/
def Stb (b : Nat) (w : World) (v x : Value) (m : List Nat) : Prop := ∀ w' v', Mv b w w' v v' → Sl w' x m
def StL (b : Nat) (w : World) (v vp : Value) (vs : List Value) (ls : List (List Nat)) : Prop := ∀ w' v', Mv b w w' v v' → Ls w' vp vs ls
theorem Stb.sl {b : Nat} {w : World} {v x : Value} {m : List Nat} (h : Stb b w v x m) : Sl w x m := h _ _ (Mv.refl _ _ _)
theorem StL.ls {b : Nat} {w : World} {v vp : Value} {vs : List Value} {ls : List (List Nat)} (h : StL b w v vp vs ls) : Ls w vp vs ls := h _ _ (Mv.refl _ _ _)
theorem Stb.mv {b : Nat} {w w' : World} {v v' x : Value} {m : List Nat} (h : Stb b w v x m) (k : Mv b w w' v v') : Stb b w' v' x m := fun _ _ k' => h _ _ (k.trans k')
theorem StL.mv {b : Nat} {w w' : World} {v v' vp : Value} {vs : List Value} {ls : List (List Nat)} (h : StL b w v vp vs ls) (k : Mv b w w' v v') : StL b w' v' vp vs ls := fun _ _ k' => h _ _ (k.trans k')
theorem Stb.keep {b : Nat} {w w' : World} {v x : Value} {m : List Nat} (h : Stb b w v x m) (k : Below w.heap.size w w') : Stb b w' v x m := h.mv (mv_below v k)
/-- What lies in another block. -/
theorem stb_far {w : World} {b : Nat} {v x : Value} {m : List Nat} (h : Sl w x m) (hf : ∀ g, x.ownBlock = some g → g ≠ b ∧ v.ownBlock ≠ some g) : Stb b w v x m := by
  intro w' v' k
  obtain ⟨q, cap, rfl, h1, h2, h3⟩ := h
  refine ⟨q, cap, rfl, h1, h2, fun h0 => ?_⟩
  obtain ⟨g, off, rfl, hg, hr⟩ := h3 h0
  obtain ⟨f1, f2⟩ := hf g rfl
  refine ⟨g, off, rfl, Nat.lt_of_lt_of_le hg k.size, fun j x hx => ?_⟩
  exact (World.cell?_of_block (w := w) (a := ⟨g, off + j, none⟩) (k.other g hg f1 f2)).trans (hr j x hx)
theorem eachS1 {b : Nat} {w : World} {v x : Value} {l : List Nat} (h : Stb b w v x l) : ∀ (j : Nat) (y : Value) (m : List Nat), [x][j]? = some y → [l][j]? = some m → Stb b w v y m := by
  intro j y m hx hm
  match j, hx, hm with
  | 0, hx, hm => simp at hx hm; subst hx; subst hm; exact h
theorem eachS2 {b : Nat} {w : World} {v x x2 : Value} {l l2 : List Nat} (h : Stb b w v x l) (h2 : Stb b w v x2 l2) : ∀ (j : Nat) (y : Value) (m : List Nat), [x, x2][j]? = some y → [l, l2][j]? = some m → Stb b w v y m := by
  intro j y m hx hm
  match j, hx, hm with
  | 0, hx, hm => simp at hx hm; subst hx; subst hm; exact h
  | 1, hx, hm => simp at hx hm; subst hx; subst hm; exact h2
end Go.Proofs.Ytodmhohccclhmaa
namespace Go.Proofs.Ytodmhohccclhmaa
open Go.RowKit
set_option linter.unusedVariables false

/-- Nothing but the block of a slice has turned. -/
def Onl (v : Value) (V W : World) : Prop := (∀ g, v.ownBlock = some g → Chg g V W) ∧ (v.ownBlock = none → W = V)
theorem Onl.refl (v : Value) (V : World) : Onl v V V := ⟨fun g _ => Chg.refl _ _, fun _ => rfl⟩
theorem Onl.set {v : Value} {V W : World} {g : Nat} (h : Onl v V W) (hg : v.ownBlock = some g) (i : Nat) (x : Value) : Onl v V (W.setCell ⟨g, i, none⟩ x) :=
  ⟨fun g' h' => by rw [hg] at h'; cases h'; exact (h.1 g hg).trans (chg_set _ _ _ _), fun h' => by rw [hg] at h'; cases h'⟩
theorem Onl.blk {v : Value} {V W : World} (h : Onl v V W) {b : Nat} {cs : Array Value} {t : TypeId} (hB : Blk V b cs t) (hn : v.ownBlock ≠ some b) : Blk W b cs t := by
  cases hv : v.ownBlock with
  | none => rw [h.2 hv]; exact hB
  | some g => exact hB.chg (h.1 g hv) (fun e => hn (by rw [hv, e]))
theorem Onl.own {v u : Value} {V W : World} (h : Onl v V W) {base e s n : Nat} {xs : List Value} (hO : V.ownsRow base e s u n xs) (hs : Sep v u) : W.ownsRow base e s u n xs := by
  cases hv : v.ownBlock with
  | none => rw [h.2 hv]; exact hO
  | some g => exact own_at hO (fun k hk => (h.1 g hv).other k (fun e => hs g hv (by rw [hk, e])))
theorem Onl.io {v u : Value} {V W : World} (h : Onl v V W) {base : Nat} {l : List Int} (hO : Io V base u l) (hs : Sep v u) : Io W base u l := h.own hO hs
theorem Onl.cn {v u : Value} {V W : World} (h : Onl v V W) {base : Nat} {l : List Int} (hO : Cn V base u l) (hs : Sep v u) : Cn W base u l := by
  obtain ⟨g, cap, rfl, h1⟩ := hO
  exact ⟨g, cap, rfl, h.io h1 hs⟩
theorem Onl.below {v : Value} {V W : World} (h : Onl v V W) {n : Nat} (hn : ∀ g, v.ownBlock = some g → n ≤ g) : Below n V W := by
  cases hv : v.ownBlock with
  | none => rw [h.2 hv]; exact Below.refl _ _
  | some g => exact (h.1 g hv).below (hn g hv)
theorem Cn.lt {W : World} {base : Nat} {v : Value} {l : List Int} (h : Cn W base v l) : ∀ k, v.ownBlock = some k → base ≤ k ∧ k < W.heap.size := by
  obtain ⟨g, cap, rfl, h1⟩ := h
  intro k hk
  exact h1.lt k hk
/-- A marked copy as a row of the call's own. -/
theorem Cn.row {W : World} {base n : Nat} {v : Value} {l : List Int} (h : Cn W base v l) (hn : l.length = n) : ∃ g cap, v = .slice (some ⟨g, 0, none⟩) n cap ∧ W.ownsRow base 3 1 (.slice (some ⟨g, 0, none⟩) (n + 1) cap) (n + 1) (ints (l ++ [-77])) := by
  subst hn
  obtain ⟨g, cap, rfl, h1⟩ := h
  refine ⟨g, cap, rfl, ?_⟩
  unfold Io at h1
  have e : (l ++ [-77]).length = l.length + 1 := by simp
  rwa [e] at h1
theorem eq_ck (k : Int) (a b : Nat) (w : World) : (binOp .eql 55 (errV (ckN k a b)) .nilIface).run Try.prog w = .ok (.bool (gdC k a b)) w := by
  cases h : gdC k a b
  · rw [ckN_no h]; kernel_rfl
  · rw [ckN_ok h]; kernel_rfl
theorem eqg_err (n : Nat) (x : Operand) (w : World) : (eqGuard .eql 55 x (.const .nilIface) (errV n) .nilIface).run Try.prog w = .ok () w := by
  unfold errV
  split
  · cases x <;> rfl
  · rfl
theorem beq_b (b : Bool) : (b == b) = true := by cases b <;> rfl
theorem bne_b (b : Bool) : (b != b) = false := by cases b <;> rfl
theorem zero_cg (w : World) : (zeroValue 26).run Try.prog w = .ok (.agg (cgC 0 (.slice none 0 0) (.slice none 0 0))) w := by kernel_rfl
/-- A marked copy stays where a block of another kind turns. -/
theorem Cn.other {W W' : World} {base g : Nat} {v : Value} {l : List Int} {cs : Array Value} {t : TypeId} (h : Cn W base v l) (hB : Blk W g cs t) (ht : t ≠ 3) (hc : Chg g W W') : Cn W' base v l := by
  obtain ⟨g', cap, rfl, h1⟩ := h
  exact ⟨g', cap, rfl, own_chgT h1 hc (blk_own h1 hB ht)⟩
theorem owns_len {W : World} {base n : Nat} {v : Value} {l : List Int} (h : W.ownsRow base 3 1 v n (ints l)) : l.length = n := by have h9 := h.1; rw [ints_len, Nat.mul_one] at h9; exact h9
end Go.Proofs.Ytodmhohccclhmaa
