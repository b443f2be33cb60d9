/-
  Nothing but one block and the row that it holds has turned; what stays then.
-/
import Derived.Test.YtddpdmolknfjaaaFrM
import Derived.Test.YtddpdmolknfjaaaBlocks
import Derived.Test.YtddpdmolknfjaaaOwn
namespace Go.Proofs.Ytddpdmolknfjaaa
open Go.RowKit
set_option linter.unusedVariables false

/-- Nothing but the tape's own memory has turned. -/
structure Mv (b : Nat) (w w' : World) (v v' : Value) : Prop where
  os : w'.os = w.os
  tape : w'.tape = w.tape
  output : w'.output = w.output
  size : w.heap.size ≤ w'.heap.size
  other : ∀ k, k < w.heap.size → k ≠ b → v.ownBlock ≠ some k → w'.heap[k]? = w.heap[k]?
  next : ∀ r, v'.ownBlock = some r → v.ownBlock = some r ∨ w.heap.size ≤ r
theorem Mv.refl (b : Nat) (w : World) (v : Value) : Mv b w w v v := ⟨rfl, rfl, rfl, Nat.le_refl _, fun _ _ _ _ => rfl, fun _ h => .inl h⟩
theorem Mv.trans {b : Nat} {w w' w'' : World} {v v' v'' : Value} (h : Mv b w w' v v') (k : Mv b w' w'' v' v'') : Mv b w w'' v v'' :=
  ⟨k.os.trans h.os, k.tape.trans h.tape, k.output.trans h.output, Nat.le_trans h.size k.size,
   fun i hi hb hv => (k.other i (Nat.lt_of_lt_of_le hi h.size) hb (fun e => by
     rcases h.next i e with e | e
     · exact hv e
     · omega)).trans (h.other i hi hb hv),
   fun r hr => by
     rcases k.next r hr with e | e
     · exact h.next r e
     · exact .inr (Nat.le_trans h.size e)⟩
theorem mv_chg {b : Nat} {w w' : World} (v : Value) (h : Chg b w w') : Mv b w w' v v := ⟨h.os, h.tape, h.output, Nat.le_of_eq h.size.symm, fun k _ hk _ => h.other k hk, fun _ h => .inl h⟩
theorem mv_below {b : Nat} {w w' : World} (v : Value) (h : Below w.heap.size w w') : Mv b w w' v v := ⟨h.os, h.tape, h.output, h.size, fun k hk _ _ => h.block k hk, fun _ h => .inl h⟩
theorem mv_grown {b : Nat} {w w' : World} {v v' : Value} (h : w.grownBy w' v.ownBlock) (ha : v'.ownBlock = v.ownBlock ∨ v'.ownBlock = some w.heap.size) : Mv b w w' v v' :=
  ⟨h.os, h.tape, h.output, h.size, fun k hk _ hv => h.block k hk (fun e => hv e.symm), fun r hr => by
    rcases ha with e | e
    · exact .inl (by rw [← e]; exact hr)
    · rw [e] at hr; cases hr; exact .inr (Nat.le_refl _)⟩
theorem blk_own {W : World} {base b n e size : Nat} {v : Value} {xs : List Value} {vs : Array Value} {t : TypeId} (h : W.ownsRow base e size v n xs) (hB : Blk W b vs t) (hn : t ≠ e) : v.ownBlock ≠ some b := by
  intro hv
  rcases h.2 with ⟨h2, _⟩ | ⟨g, cap, cur, h2, hb, hg, _⟩
  · rw [h2] at hv; cases hv
  · rw [h2] at hv
    have hv' : g = b := by simpa [Value.ownBlock] using hv
    subst hv'
    unfold Blk at hB
    rw [hg] at hB
    cases hB
    exact hn rfl
theorem own_chgT {W W' : World} {base b n e size : Nat} {v : Value} {xs : List Value} (h : W.ownsRow base e size v n xs) (hc : Chg b W W') (hn : v.ownBlock ≠ some b) : W'.ownsRow base e size v n xs := by
  refine ⟨h.1, ?_⟩
  rcases h.2 with h2 | ⟨g, cap, cur, rfl, hb, hg, h4⟩
  · exact .inl h2
  · exact .inr ⟨g, cap, cur, rfl, hb, Blk.chg hg hc (fun e => hn (by rw [e]; rfl)), h4⟩
theorem blk_grownT {W W' : World} {b : Nat} {vs : Array Value} {t : TypeId} {row : Option Nat} (h : Blk W b vs t) (hg : W.grownBy W' row) (hn : row ≠ some b) : Blk W' b vs t := by
  unfold Blk
  rw [hg.block b h.lt (fun e => hn e.symm)]
  exact h
theorem mv_new {b : Nat} {w w' : World} {v v' : Value} (h : Below w.heap.size w w') (hn : ∀ r, v'.ownBlock = some r → w.heap.size ≤ r) : Mv b w w' v v' := ⟨h.os, h.tape, h.output, h.size, fun k hk _ _ => h.block k hk, fun r hr => .inr (hn r hr)⟩
/-- Bytes that stay whatever the tape does. -/
def Stb (b : Nat) (w : World) (v x : Value) (m : List Nat) : Prop := ∀ w' v', Mv b w w' v v' → Sl w' x m
def StL (b : Nat) (w : World) (v vp : Value) (vs : List Value) (ls : List (List Nat)) : Prop := ∀ w' v', Mv b w w' v v' → Ls w' vp vs ls
theorem Stb.sl {b : Nat} {w : World} {v x : Value} {m : List Nat} (h : Stb b w v x m) : Sl w x m := h _ _ (Mv.refl _ _ _)
theorem StL.ls {b : Nat} {w : World} {v vp : Value} {vs : List Value} {ls : List (List Nat)} (h : StL b w v vp vs ls) : Ls w vp vs ls := h _ _ (Mv.refl _ _ _)
theorem Stb.mv {b : Nat} {w w' : World} {v v' x : Value} {m : List Nat} (h : Stb b w v x m) (k : Mv b w w' v v') : Stb b w' v' x m := fun _ _ k' => h _ _ (k.trans k')
theorem StL.mv {b : Nat} {w w' : World} {v v' vp : Value} {vs : List Value} {ls : List (List Nat)} (h : StL b w v vp vs ls) (k : Mv b w w' v v') : StL b w' v' vp vs ls := fun _ _ k' => h _ _ (k.trans k')
theorem Stb.keep {b : Nat} {w w' : World} {v x : Value} {m : List Nat} (h : Stb b w v x m) (k : Below w.heap.size w w') : Stb b w' v x m := h.mv (mv_below v k)
/-- What lies in another block. -/
theorem stb_far {w : World} {b : Nat} {v x : Value} {m : List Nat} (h : Sl w x m) (hf : ∀ g, x.ownBlock = some g → g ≠ b ∧ v.ownBlock ≠ some g) : Stb b w v x m := by
  intro w' v' k
  obtain ⟨q, cap, rfl, h1, h2, h3⟩ := h
  refine ⟨q, cap, rfl, h1, h2, fun h0 => ?_⟩
  obtain ⟨g, off, rfl, hg, hr⟩ := h3 h0
  obtain ⟨f1, f2⟩ := hf g rfl
  refine ⟨g, off, rfl, Nat.lt_of_lt_of_le hg k.size, fun j x hx => ?_⟩
  exact (World.cell?_of_block (w := w) (a := ⟨g, off + j, none⟩) (k.other g hg f1 f2)).trans (hr j x hx)
theorem eachS1 {b : Nat} {w : World} {v x : Value} {l : List Nat} (h : Stb b w v x l) : ∀ (j : Nat) (y : Value) (m : List Nat), [x][j]? = some y → [l][j]? = some m → Stb b w v y m := by
  intro j y m hx hm
  match j, hx, hm with
  | 0, hx, hm => simp at hx hm; subst hx; subst hm; exact h
theorem eachS2 {b : Nat} {w : World} {v x x2 : Value} {l l2 : List Nat} (h : Stb b w v x l) (h2 : Stb b w v x2 l2) : ∀ (j : Nat) (y : Value) (m : List Nat), [x, x2][j]? = some y → [l, l2][j]? = some m → Stb b w v y m := by
  intro j y m hx hm
  match j, hx, hm with
  | 0, hx, hm => simp at hx hm; subst hx; subst hm; exact h
  | 1, hx, hm => simp at hx hm; subst hx; subst hm; exact h2
end Go.Proofs.Ytddpdmolknfjaaa
