/-
  Nothing but these blocks has turned; what stays then.
-/
import Derived.Test.YtnooedipanhkjaaBlocks
import Derived.Test.YtnooedipanhkjaaOwn
import Derived.Test.YtnooedipanhkjaaFrI
namespace Go.Proofs.Ytnooedipanhkjaa
open Go.RowKit
set_option linter.unusedVariables false
set_option maxRecDepth 100000

/-- Nothing but these blocks has turned, of those that there were. -/
structure Frm (X : Nat → Prop) (W W' : World) : Prop where
  os : W'.os = W.os
  tape : W'.tape = W.tape
  output : W'.output = W.output
  size : W.heap.size ≤ W'.heap.size
  other : ∀ k, k < W.heap.size → ¬ X k → W'.heap[k]? = W.heap[k]?
theorem Frm.refl (X : Nat → Prop) (W : World) : Frm X W W := ⟨rfl, rfl, rfl, Nat.le_refl _, fun _ _ _ => rfl⟩
theorem Frm.trans {X : Nat → Prop} {A B C : World} (h : Frm X A B) (k : Frm X B C) : Frm X A C :=
  ⟨k.os.trans h.os, k.tape.trans h.tape, k.output.trans h.output, Nat.le_trans h.size k.size, fun i hi hx => (k.other i (Nat.lt_of_lt_of_le hi h.size) hx).trans (h.other i hi hx)⟩
theorem Frm.mono {X Y : Nat → Prop} {A B : World} (h : Frm X A B) (hxy : ∀ k, X k → Y k) : Frm Y A B := ⟨h.os, h.tape, h.output, h.size, fun i hi hy => h.other i hi (fun hx => hy (hxy i hx))⟩
/-- What is new may turn. -/
theorem Frm.young {X Y : Nat → Prop} {A B C : World} (h : Frm X A B) (k : Frm Y B C) (hxy : ∀ k, k < A.heap.size → Y k → X k) : Frm X A C :=
  ⟨k.os.trans h.os, k.tape.trans h.tape, k.output.trans h.output, Nat.le_trans h.size k.size, fun i hi hx => (k.other i (Nat.lt_of_lt_of_le hi h.size) (fun hy => hx (hxy i hi hy))).trans (h.other i hi hx)⟩
theorem frm_below {X : Nat → Prop} {A B : World} (h : Below A.heap.size A B) : Frm X A B := ⟨h.os, h.tape, h.output, h.size, fun i hi _ => h.block i hi⟩
theorem frm_chg {X : Nat → Prop} {A B : World} {b : Nat} (h : Chg b A B) (hb : X b) : Frm X A B := ⟨h.os, h.tape, h.output, Nat.le_of_eq h.size.symm, fun i hi hx => h.other i (fun e => hx (e ▸ hb))⟩
theorem frm_grown {X : Nat → Prop} {A B : World} {b : Nat} (h : A.grownBy B (some b)) (hb : X b) : Frm X A B := ⟨h.os, h.tape, h.output, h.size, fun i hi hx => h.block i hi (fun e => hx (by cases e; exact hb))⟩
theorem Frm.below {X : Nat → Prop} {A B : World} (h : Frm X A B) {n : Nat} (hn : n ≤ A.heap.size) (hx : ∀ k, X k → n ≤ k) : Below n A B := ⟨h.os, h.tape, h.output, h.size, fun i hi => h.other i (Nat.lt_of_lt_of_le hi hn) (fun e => by have := hx i e; omega)⟩
theorem Blk.frm {X : Nat → Prop} {W W' : World} {b : Nat} {vs : Array Value} {t : TypeId} (h : Blk W b vs t) (hf : Frm X W W') (hx : ¬ X b) : Blk W' b vs t := by
  unfold Blk; rw [hf.other b h.lt hx]; exact h
/-- What kind of block it is. -/
def kindR (W : World) (k : Nat) (t : TypeId) : Prop := ∃ cur fr, W.heap[k]? = some (.cells cur t fr)
theorem kindR.uniq {W : World} {k : Nat} {t t' : TypeId} (h : kindR W k t) (h' : kindR W k t') : t = t' := by
  obtain ⟨c, f, e⟩ := h
  obtain ⟨c', f', e'⟩ := h'
  rw [e] at e'
  cases e'
  rfl
theorem Blk.kindR {W : World} {k : Nat} {xs : Array Value} {t : TypeId} (h : Blk W k xs t) : kindR W k t := ⟨xs, _, h⟩
theorem own_kindR {W : World} {B n e s : Nat} {v : Value} {xs : List Value} (h : W.ownsRow B e s v n xs) {k : Nat} (hk : v.ownBlock = some k) : kindR W k e := by
  rcases h.2 with ⟨h2, _⟩ | ⟨g, cap, cur, h2, _, hg, _⟩
  · rw [h2] at hk; cases hk
  · rw [h2] at hk
    have : g = k := by simpa [Value.ownBlock] using hk
    subst this
    exact ⟨cur, _, hg⟩
/-- None of these blocks holds numbers. -/
def NoI (X : Nat → Prop) (W : World) : Prop := ∀ k, X k → ¬ kindR W k 3
theorem Io.frm {X : Nat → Prop} {W W' : World} {B : Nat} {v : Value} {l : List Int} (h : Io W B v l) (hf : Frm X W W') (hx : NoI X W) : Io W' B v l :=
  own_at h fun g hg => hf.other g (h.lt g hg).2 (fun e => hx g e (own_kindR h hg))
end Go.Proofs.Ytnooedipanhkjaa
