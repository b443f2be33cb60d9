/-
  Slices of bytes in memory, and slices of such slices.
  Nothing but one block and the row that it holds has turned; what stays then.
-/
import Derived.Test.YtfnageillhpjpaaRows
import Derived.Test.YtfnageillhpjpaaPk02
import Derived.Test.YtfnageillhpjpaaPk19
import Derived.Test.YtfnageillhpjpaaPk11
import Derived.Laws.BytesArg
import Derived.Lib.Strings
import Derived.Test.YtfnageillhpjpaaPk05
import Derived.Test.YtfnageillhpjpaaPk06
namespace Go.Proofs.Ytfnageillhpjpaa
set_option maxRecDepth 100000
open Go.RowKit
set_option linter.unusedVariables false

def bys (l : List Nat) : List Value := l.map fun x => Value.int .u8 ((x : Nat) : Int)
theorem bys_len (l : List Nat) : (bys l).length = l.length := by simp [bys]
theorem bys_append (l m : List Nat) : bys l ++ bys m = bys (l ++ m) := by simp [bys]
theorem bys_one (l : List Nat) : ∀ u ∈ bys l, u.oneCell' = true := by
  intro u hu
  obtain ⟨x, _, rfl⟩ := List.mem_map.1 hu
  rfl
theorem bys_at (l : List Nat) (j : Nat) : (bys l)[j]? = l[j]?.map fun x => Value.int .u8 ((x : Nat) : Int) := by simp [bys]
theorem bys_set (l : List Nat) (j x : Nat) : (bys l).set j (.int .u8 ((x : Nat) : Int)) = bys (l.set j x) := by simp [bys, List.map_set]
theorem infoByte : (Try.prog.info? 5).map (fun i => (i.zero, i.size, i.bytes)) = some (some (.int .u8 0), 1, 1) := by kernel_rfl
/-- A row of bytes in memory. -/
def BRow (W : World) (g off : Nat) (l : List Nat) : Prop := ∀ j x, l[j]? = some x → W.cell? ⟨g, off + j, none⟩ = some (.int .u8 ((x : Nat) : Int))
theorem brow_keep {W W' : World} {g off : Nat} {l : List Nat} (h : BRow W g off l) (hg : g < W.heap.size) (hb : Below W.heap.size W W') : BRow W' g off l :=
  fun j x hx => (hb.cell (p := ⟨g, off + j, none⟩) hg).trans (h j x hx)
theorem brow_drop {W : World} {g off : Nat} {l : List Nat} (h : BRow W g off l) (k : Nat) : BRow W g (off + k) (l.drop k) := by
  intro j x hx
  rw [List.getElem?_drop] at hx
  rw [Nat.add_assoc]
  exact h (k + j) x hx
theorem brow_take {W : World} {g off : Nat} {l : List Nat} (h : BRow W g off l) (k : Nat) : BRow W g off (l.take k) := by
  intro j x hx
  rw [List.getElem?_take] at hx
  split at hx
  · exact h j x hx
  · cases hx
/-- A slice of these bytes, in memory that W has. -/
def Sl (W : World) (v : Value) (l : List Nat) : Prop := ∃ q cap, v = .slice q l.length cap ∧ l.length ≤ cap ∧ cap ≤ maxLen ∧ (0 < l.length → ∃ g off, q = some ⟨g, off, none⟩ ∧ g < W.heap.size ∧ BRow W g off l)
theorem Sl.keep {W W' : World} {v : Value} {l : List Nat} (h : Sl W v l) (hb : Below W.heap.size W W') : Sl W' v l := by
  obtain ⟨q, cap, rfl, h1, h2, h3⟩ := h
  refine ⟨q, cap, rfl, h1, h2, fun h0 => ?_⟩
  obtain ⟨g, off, rfl, hg, hr⟩ := h3 h0
  exact ⟨g, off, rfl, Nat.lt_of_lt_of_le hg hb.size, brow_keep hr hg hb⟩
theorem Sl.open {W : World} {v : Value} {l : List Nat} (h : Sl W v l) : ∃ q cap g off, v = .slice q l.length cap ∧ l.length ≤ cap ∧ cap ≤ 9223372036854775807 ∧ (0 < l.length → q = some ⟨g, off, none⟩) ∧ (0 < l.length → g < W.heap.size) ∧ BRow W g off l := by
  obtain ⟨q, cap, rfl, h1, h2, h3⟩ := h
  by_cases h0 : 0 < l.length
  · obtain ⟨g, off, rfl, hg, hr⟩ := h3 h0
    exact ⟨_, cap, g, off, rfl, h1, h2, fun _ => rfl, fun _ => hg, hr⟩
  · have : l = [] := List.eq_nil_of_length_eq_zero (by omega)
    subst this
    exact ⟨q, cap, 0, 0, rfl, h1, h2, fun h => absurd h h0, fun h => absurd h h0, fun j x hx => by simp at hx⟩
theorem Sl.len {W : World} {q : Option Addr} {n cap : Nat} {l : List Nat} (h : Sl W (.slice q n cap) l) : l.length = n ∧ n ≤ cap ∧ cap ≤ 9223372036854775807 := by
  obtain ⟨q', cap', e, h1, h2, _⟩ := h
  cases e
  exact ⟨rfl, h1, h2⟩
theorem sl_nil (W : World) : Sl W (.slice none 0 0) [] := ⟨none, 0, rfl, Nat.le_refl _, by unfold maxLen; omega, fun h => absurd h (by simp)⟩
theorem sl_of {W : World} {q : Option Addr} {n cap g off : Nat} {l : List Nat} (hn : l.length = n) (hc : n ≤ cap) (hm : cap ≤ maxLen) (hp : 0 < n → q = some ⟨g, off, none⟩) (hg : 0 < n → g < W.heap.size) (hr : BRow W g off l) : Sl W (.slice q n cap) l := by
  subst hn
  exact ⟨q, cap, rfl, hc, hm, fun h0 => ⟨g, off, hp h0, hg h0, hr⟩⟩
theorem own_sl {W : World} {base n : Nat} {v : Value} {l : List Nat} (h : W.ownsRow base 5 1 v n (bys l)) : l.length = n ∧ Sl W v l := by
  obtain ⟨h1, q, g, cap, rfl, hp, hg, _, _, hc, hm, hr, _⟩ := own_open h (by omega)
  rw [bys_len, Nat.mul_one] at h1
  exact ⟨h1, sl_of h1 hc hm hp hg (fun j x hx => by rw [Nat.zero_add]; exact hr j _ (by rw [bys_at, hx]; rfl))⟩
/-- What append asks of its source. -/
theorem Sl.src {W : World} {v : Value} {l : List Nat} (h : Sl W v l) : ∃ q cap, v = .slice q l.length cap ∧ (q = none → l.length = 0) ∧ (∀ ad, q = some ad → ∀ j u, (bys l)[j]? = some u → W.cell? (ad.add j) = some u) := by
  obtain ⟨q, cap, rfl, h1, h2, h3⟩ := h
  refine ⟨q, cap, rfl, fun hq => ?_, fun ad had j u hu => ?_⟩
  · by_cases h0 : 0 < l.length
    · obtain ⟨g, off, e, _⟩ := h3 h0
      rw [hq] at e; cases e
    · omega
  · rw [bys_at] at hu
    cases hx : l[j]? with
    | none => rw [hx] at hu; simp at hu
    | some x =>
      rw [hx] at hu
      obtain ⟨g, off, e, _, hr⟩ := h3 (by have := (List.getElem?_eq_some_iff.1 hx).1; omega)
      rw [had] at e
      cases e
      rw [Addr.add_mid, hr j x hx]
      simpa using hu
/-- The string of bytes. -/
def strB (l : List Nat) : ByteArray := strOfNums (l.map fun (x : Nat) => ((x : Nat) : Int))
theorem strB_inj {l m : List Nat} (hl : Byt l) (hm : Byt m) (h : strB l = strB m) : l = m := by
  have h1 := congrArg (fun s => s.data.toList) h
  simp only [strB, strOfNums_data, List.map_map] at h1
  have h2 := congrArg (List.map UInt8.toNat) h1
  simp only [List.map_map] at h2
  have key : ∀ l : List Nat, Byt l → l.map (UInt8.toNat ∘ ((fun n : Int => UInt8.ofNat n.toNat) ∘ fun (x : Nat) => ((x : Nat) : Int))) = l := by
    intro l hl
    induction l with
    | nil => rfl
    | cons b r ih =>
      rw [List.map_cons, ih (fun x hx => hl x (List.mem_cons_of_mem _ hx))]
      congr 1
      have := hl b (List.mem_cons_self ..)
      simp
      omega
  rwa [key l hl, key m hm] at h2
theorem strB_iff {l m : List Nat} (hl : Byt l) (hm : Byt m) : strB l = strB m ↔ l = m := ⟨strB_inj hl hm, fun h => by rw [h]⟩
theorem strB_app (l m : List Nat) : strB l ++ strB m = strB (l ++ m) := by
  apply ByteArray.ext
  simp [strB, strOfNums]
/-- A row of values in memory. -/
def VRow (W : World) (g off : Nat) (vs : List Value) : Prop := ∀ j x, vs[j]? = some x → W.cell? ⟨g, off + j, none⟩ = some x
/-- A slice of slices of bytes. -/
structure Ls (W : World) (v : Value) (vs : List Value) (ls : List (List Nat)) : Prop where
  len : vs.length = ls.length
  row : ∃ q cap, v = .slice q vs.length cap ∧ vs.length ≤ cap ∧ cap ≤ maxLen ∧ (0 < vs.length → ∃ g off, q = some ⟨g, off, none⟩ ∧ g < W.heap.size ∧ VRow W g off vs)
  each : ∀ (j : Nat) (x : Value) (l : List Nat), vs[j]? = some x → ls[j]? = some l → Sl W x l
theorem Ls.keep {W W' : World} {v : Value} {vs : List Value} {ls : List (List Nat)} (h : Ls W v vs ls) (hb : Below W.heap.size W W') : Ls W' v vs ls := by
  obtain ⟨h1, ⟨q, cap, rfl, h2, h3, h4⟩, h5⟩ := h
  refine ⟨h1, ⟨q, cap, rfl, h2, h3, fun h0 => ?_⟩, fun j x l hx hl => (h5 j x l hx hl).keep hb⟩
  obtain ⟨g, off, rfl, hg, hr⟩ := h4 h0
  exact ⟨g, off, rfl, Nat.lt_of_lt_of_le hg hb.size, fun j x hx => (hb.cell (p := ⟨g, off + j, none⟩) hg).trans (hr j x hx)⟩
theorem Ls.open {W : World} {v : Value} {vs : List Value} {ls : List (List Nat)} (h : Ls W v vs ls) : ∃ q cap g off, v = .slice q ls.length cap ∧ ls.length ≤ cap ∧ cap ≤ 9223372036854775807 ∧ (0 < ls.length → q = some ⟨g, off, none⟩) ∧ (0 < ls.length → g < W.heap.size) ∧ VRow W g off vs := by
  obtain ⟨h1, ⟨q, cap, rfl, h2, h3, h4⟩, h5⟩ := h
  rw [h1] at h2 h4 ⊢
  by_cases h0 : 0 < ls.length
  · obtain ⟨g, off, rfl, hg, hr⟩ := h4 h0
    exact ⟨_, cap, g, off, rfl, h2, h3, fun _ => rfl, fun _ => hg, hr⟩
  · have : vs = [] := List.eq_nil_of_length_eq_zero (by omega)
    subst this
    exact ⟨q, cap, 0, 0, rfl, h2, h3, fun h => absurd h h0, fun h => absurd h h0, fun j x hx => by simp at hx⟩
theorem ls_nil (W : World) : Ls W (.slice none 0 0) [] [] := ⟨rfl, ⟨none, 0, rfl, Nat.le_refl _, by unfold maxLen; omega, fun h => absurd h (by simp)⟩, fun j x l h => by simp at h⟩
/-- Strings that differ, as the walk compares them. -/
theorem strB_ne {a b : List Nat} (h : strB a ≠ strB b) : ((strB a).toList == (strB b).toList) = false := by
  apply beq_false_of_ne
  intro e
  rw [Lib.toList_data, Lib.toList_data] at e
  exact h (ByteArray.ext (Array.toList_inj.1 e))
theorem strB_len (l : List Nat) : (strB l).size = l.length := by
  simp [strB, strOfNums, ByteArray.size]
theorem Sl.slice {W : World} {v : Value} {l : List Nat} (h : Sl W v l) : ∃ q n c, v = .slice q n c := by
  obtain ⟨q, cap, e, -⟩ := h
  exact ⟨q, _, cap, e⟩
end Go.Proofs.Ytfnageillhpjpaa
namespace Go.Proofs.Ytfnageillhpjpaa
set_option maxRecDepth 100000
open Go.RowKit
set_option linter.unusedVariables false

/-- Nothing but the tape's own memory has turned. -/
structure Mv (b : Nat) (w w' : World) (v v' : Value) : Prop where
  os : w'.os = w.os
  tape : w'.tape = w.tape
  output : w'.output = w.output
  size : w.heap.size ≤ w'.heap.size
  other : ∀ k, k < w.heap.size → k ≠ b → v.ownBlock ≠ some k → w'.heap[k]? = w.heap[k]?
  next : ∀ r, v'.ownBlock = some r → v.ownBlock = some r ∨ w.heap.size ≤ r
theorem Mv.refl (b : Nat) (w : World) (v : Value) : Mv b w w v v := ⟨rfl, rfl, rfl, Nat.le_refl _, fun _ _ _ _ => rfl, fun _ h => .inl h⟩
theorem Mv.trans {b : Nat} {w w' w'' : World} {v v' v'' : Value} (h : Mv b w w' v v') (k : Mv b w' w'' v' v'') : Mv b w w'' v v'' :=
  ⟨k.os.trans h.os, k.tape.trans h.tape, k.output.trans h.output, Nat.le_trans h.size k.size,
   fun i hi hb hv => (k.other i (Nat.lt_of_lt_of_le hi h.size) hb (fun e => by
     rcases h.next i e with e | e
     · exact hv e
     · omega)).trans (h.other i hi hb hv),
   fun r hr => by
     rcases k.next r hr with e | e
     · exact h.next r e
     · exact .inr (Nat.le_trans h.size e)⟩
theorem mv_chg {b : Nat} {w w' : World} (v : Value) (h : Chg b w w') : Mv b w w' v v := ⟨h.os, h.tape, h.output, Nat.le_of_eq h.size.symm, fun k _ hk _ => h.other k hk, fun _ h => .inl h⟩
theorem mv_below {b : Nat} {w w' : World} (v : Value) (h : Below w.heap.size w w') : Mv b w w' v v := ⟨h.os, h.tape, h.output, h.size, fun k hk _ _ => h.block k hk, fun _ h => .inl h⟩
theorem mv_grown {b : Nat} {w w' : World} {v v' : Value} (h : w.grownBy w' v.ownBlock) (ha : v'.ownBlock = v.ownBlock ∨ v'.ownBlock = some w.heap.size) : Mv b w w' v v' :=
  ⟨h.os, h.tape, h.output, h.size, fun k hk _ hv => h.block k hk (fun e => hv e.symm), fun r hr => by
    rcases ha with e | e
    · exact .inl (by rw [← e]; exact hr)
    · rw [e] at hr; cases hr; exact .inr (Nat.le_refl _)⟩
theorem blk_own {W : World} {base b n e size : Nat} {v : Value} {xs : List Value} {vs : Array Value} {t : TypeId} (h : W.ownsRow base e size v n xs) (hB : Blk W b vs t) (hn : t ≠ e) : v.ownBlock ≠ some b := by
  intro hv
  rcases h.2 with ⟨h2, _⟩ | ⟨g, cap, cur, h2, hb, hg, _⟩
  · rw [h2] at hv; cases hv
  · rw [h2] at hv
    have hv' : g = b := by simpa [Value.ownBlock] using hv
    subst hv'
    unfold Blk at hB
    rw [hg] at hB
    cases hB
    exact hn rfl
theorem own_chgT {W W' : World} {base b n e size : Nat} {v : Value} {xs : List Value} (h : W.ownsRow base e size v n xs) (hc : Chg b W W') (hn : v.ownBlock ≠ some b) : W'.ownsRow base e size v n xs := by
  refine ⟨h.1, ?_⟩
  rcases h.2 with h2 | ⟨g, cap, cur, rfl, hb, hg, h4⟩
  · exact .inl h2
  · exact .inr ⟨g, cap, cur, rfl, hb, Blk.chg hg hc (fun e => hn (by rw [e]; rfl)), h4⟩
theorem blk_grownT {W W' : World} {b : Nat} {vs : Array Value} {t : TypeId} {row : Option Nat} (h : Blk W b vs t) (hg : W.grownBy W' row) (hn : row ≠ some b) : Blk W' b vs t := by
  unfold Blk
  rw [hg.block b h.lt (fun e => hn e.symm)]
  exact h
theorem mv_new {b : Nat} {w w' : World} {v v' : Value} (h : Below w.heap.size w w') (hn : ∀ r, v'.ownBlock = some r → w.heap.size ≤ r) : Mv b w w' v v' := ⟨h.os, h.tape, h.output, h.size, fun k hk _ _ => h.block k hk, fun r hr => .inr (hn r hr)⟩
/-- Bytes that stay whatever the tape does. -/
def Stb (b : Nat) (w : World) (v x : Value) (m : List Nat) : Prop := ∀ w' v', Mv b w w' v v' → Sl w' x m
def StL (b : Nat) (w : World) (v vp : Value) (vs : List Value) (ls : List (List Nat)) : Prop := ∀ w' v', Mv b w w' v v' → Ls w' vp vs ls
theorem Stb.sl {b : Nat} {w : World} {v x : Value} {m : List Nat} (h : Stb b w v x m) : Sl w x m := h _ _ (Mv.refl _ _ _)
theorem StL.ls {b : Nat} {w : World} {v vp : Value} {vs : List Value} {ls : List (List Nat)} (h : StL b w v vp vs ls) : Ls w vp vs ls := h _ _ (Mv.refl _ _ _)
theorem Stb.mv {b : Nat} {w w' : World} {v v' x : Value} {m : List Nat} (h : Stb b w v x m) (k : Mv b w w' v v') : Stb b w' v' x m := fun _ _ k' => h _ _ (k.trans k')
theorem StL.mv {b : Nat} {w w' : World} {v v' vp : Value} {vs : List Value} {ls : List (List Nat)} (h : StL b w v vp vs ls) (k : Mv b w w' v v') : StL b w' v' vp vs ls := fun _ _ k' => h _ _ (k.trans k')
theorem Stb.keep {b : Nat} {w w' : World} {v x : Value} {m : List Nat} (h : Stb b w v x m) (k : Below w.heap.size w w') : Stb b w' v x m := h.mv (mv_below v k)
/-- What lies in another block. -/
theorem stb_far {w : World} {b : Nat} {v x : Value} {m : List Nat} (h : Sl w x m) (hf : ∀ g, x.ownBlock = some g → g ≠ b ∧ v.ownBlock ≠ some g) : Stb b w v x m := by
  intro w' v' k
  obtain ⟨q, cap, rfl, h1, h2, h3⟩ := h
  refine ⟨q, cap, rfl, h1, h2, fun h0 => ?_⟩
  obtain ⟨g, off, rfl, hg, hr⟩ := h3 h0
  obtain ⟨f1, f2⟩ := hf g rfl
  refine ⟨g, off, rfl, Nat.lt_of_lt_of_le hg k.size, fun j x hx => ?_⟩
  exact (World.cell?_of_block (w := w) (a := ⟨g, off + j, none⟩) (k.other g hg f1 f2)).trans (hr j x hx)
theorem eachS1 {b : Nat} {w : World} {v x : Value} {l : List Nat} (h : Stb b w v x l) : ∀ (j : Nat) (y : Value) (m : List Nat), [x][j]? = some y → [l][j]? = some m → Stb b w v y m := by
  intro j y m hx hm
  match j, hx, hm with
  | 0, hx, hm => simp at hx hm; subst hx; subst hm; exact h
theorem eachS2 {b : Nat} {w : World} {v x x2 : Value} {l l2 : List Nat} (h : Stb b w v x l) (h2 : Stb b w v x2 l2) : ∀ (j : Nat) (y : Value) (m : List Nat), [x, x2][j]? = some y → [l, l2][j]? = some m → Stb b w v y m := by
  intro j y m hx hm
  match j, hx, hm with
  | 0, hx, hm => simp at hx hm; subst hx; subst hm; exact h
  | 1, hx, hm => simp at hx hm; subst hx; subst hm; exact h2
end Go.Proofs.Ytfnageillhpjpaa
