/-
  Nothing but one block and the row that it holds has turned; what stays then.
  What the laws on changes share: nothing but the block of a slice has turned; marked copies that are written over; errors held against none.
  What comes in, where a type is made of integers alone: every cell of it holds an integer of the kind that the type says. Nothing here names the program.
  What comes in, where a struct holds numbers and slices of them. Nothing here names the program.
-/
import Derived.Test.YtpcejajidhfmpaaPk04
import Derived.Test.YtpcejajidhfmpaaPk03
import Derived.Test.YtpcejajidhfmpaaPk02
import Derived.Test.YtpcejajidhfmpaaPk07
import Derived.ProofKit
import Derived.OpenShut
import Derived.ChangeOld
import Derived.Below
import Derived.Deep.Slices
import Derived.ChangeArms
import Derived.Deep.MidRow
namespace Go.Proofs.Ytpcejajidhfmpaa
open Go.RowKit
set_option linter.unusedVariables false

/-- Nothing but the tape's own memory has turned. -/
structure Mv (b : Nat) (w w' : World) (v v' : Value) : Prop where
  os : w'.os = w.os
  tape : w'.tape = w.tape
  output : w'.output = w.output
  size : w.heap.size ≤ w'.heap.size
  other : ∀ k, k < w.heap.size → k ≠ b → v.ownBlock ≠ some k → w'.heap[k]? = w.heap[k]?
  next : ∀ r, v'.ownBlock = some r → v.ownBlock = some r ∨ w.heap.size ≤ r
theorem Mv.refl (b : Nat) (w : World) (v : Value) : Mv b w w v v := ⟨rfl, rfl, rfl, Nat.le_refl _, fun _ _ _ _ => rfl, fun _ h => .inl h⟩
theorem Mv.trans {b : Nat} {w w' w'' : World} {v v' v'' : Value} (h : Mv b w w' v v') (k : Mv b w' w'' v' v'') : Mv b w w'' v v'' :=
  ⟨k.os.trans h.os, k.tape.trans h.tape, k.output.trans h.output, Nat.le_trans h.size k.size,
   fun i hi hb hv => (k.other i (Nat.lt_of_lt_of_le hi h.size) hb (fun e => by
     rcases h.next i e with e | e
     · exact hv e
     · omega)).trans (h.other i hi hb hv),
   fun r hr => by
     rcases k.next r hr with e | e
     · exact h.next r e
     · exact .inr (Nat.le_trans h.size e)⟩
theorem mv_chg {b : Nat} {w w' : World} (v : Value) (h : Chg b w w') : Mv b w w' v v := ⟨h.os, h.tape, h.output, Nat.le_of_eq h.size.symm, fun k _ hk _ => h.other k hk, fun _ h => .inl h⟩
theorem mv_below {b : Nat} {w w' : World} (v : Value) (h : Below w.heap.size w w') : Mv b w w' v v := ⟨h.os, h.tape, h.output, h.size, fun k hk _ _ => h.block k hk, fun _ h => .inl h⟩
theorem mv_grown {b : Nat} {w w' : World} {v v' : Value} (h : w.grownBy w' v.ownBlock) (ha : v'.ownBlock = v.ownBlock ∨ v'.ownBlock = some w.heap.size) : Mv b w w' v v' :=
  ⟨h.os, h.tape, h.output, h.size, fun k hk _ hv => h.block k hk (fun e => hv e.symm), fun r hr => by
    rcases ha with e | e
    · exact .inl (by rw [← e]; exact hr)
    · rw [e] at hr; cases hr; exact .inr (Nat.le_refl _)⟩
theorem blk_own {W : World} {base b n e size : Nat} {v : Value} {xs : List Value} {vs : Array Value} {t : TypeId} (h : W.ownsRow base e size v n xs) (hB : Blk W b vs t) (hn : t ≠ e) : v.ownBlock ≠ some b := by
  intro hv
  rcases h.2 with ⟨h2, _⟩ | ⟨g, cap, cur, h2, hb, hg, _⟩
  · rw [h2] at hv; cases hv
  · rw [h2] at hv
    have hv' : g = b := by simpa [Value.ownBlock] using hv
    subst hv'
    unfold Blk at hB
    rw [hg] at hB
    cases hB
    exact hn rfl
theorem own_chgT {W W' : World} {base b n e size : Nat} {v : Value} {xs : List Value} (h : W.ownsRow base e size v n xs) (hc : Chg b W W') (hn : v.ownBlock ≠ some b) : W'.ownsRow base e size v n xs := by
  refine ⟨h.1, ?_⟩
  rcases h.2 with h2 | ⟨g, cap, cur, rfl, hb, hg, h4⟩
  · exact .inl h2
  · exact .inr ⟨g, cap, cur, rfl, hb, Blk.chg hg hc (fun e => hn (by rw [e]; rfl)), h4⟩
theorem blk_grownT {W W' : World} {b : Nat} {vs : Array Value} {t : TypeId} {row : Option Nat} (h : Blk W b vs t) (hg : W.grownBy W' row) (hn : row ≠ some b) : Blk W' b vs t := by
  unfold Blk
  rw [hg.block b h.lt (fun e => hn e.symm)]
  exact h
theorem mv_new {b : Nat} {w w' : World} {v v' : Value} (h : Below w.heap.size w w') (hn : ∀ r, v'.ownBlock = some r → w.heap.size ≤ r) : Mv b w w' v v' := ⟨h.os, h.tape, h.output, h.size, fun k hk _ _ => h.block k hk, fun r hr => .inr (hn r hr)⟩
/-- Bytes that stay whatever the tape does. -/
def Stb (b : Nat) (w : World) (v x : Value) (m : List Nat) : Prop := ∀ w' v', Mv b w w' v v' → Sl w' x m
def StL (b : Nat) (w : World) (v vp : Value) (vs : List Value) (ls : List (List Nat)) : Prop := ∀ w' v', Mv b w w' v v' → Ls w' vp vs ls
theorem Stb.sl {b : Nat} {w : World} {v x : Value} {m : List Nat} (h : Stb b w v x m) : Sl w x m := h _ _ (Mv.refl _ _ _)
theorem StL.ls {b : Nat} {w : World} {v vp : Value} {vs : List Value} {ls : List (List Nat)} (h : StL b w v vp vs ls) : Ls w vp vs ls := h _ _ (Mv.refl _ _ _)
theorem Stb.mv {b : Nat} {w w' : World} {v v' x : Value} {m : List Nat} (h : Stb b w v x m) (k : Mv b w w' v v') : Stb b w' v' x m := fun _ _ k' => h _ _ (k.trans k')
theorem StL.mv {b : Nat} {w w' : World} {v v' vp : Value} {vs : List Value} {ls : List (List Nat)} (h : StL b w v vp vs ls) (k : Mv b w w' v v') : StL b w' v' vp vs ls := fun _ _ k' => h _ _ (k.trans k')
theorem Stb.keep {b : Nat} {w w' : World} {v x : Value} {m : List Nat} (h : Stb b w v x m) (k : Below w.heap.size w w') : Stb b w' v x m := h.mv (mv_below v k)
/-- What lies in another block. -/
theorem stb_far {w : World} {b : Nat} {v x : Value} {m : List Nat} (h : Sl w x m) (hf : ∀ g, x.ownBlock = some g → g ≠ b ∧ v.ownBlock ≠ some g) : Stb b w v x m := by
  intro w' v' k
  obtain ⟨q, cap, rfl, h1, h2, h3⟩ := h
  refine ⟨q, cap, rfl, h1, h2, fun h0 => ?_⟩
  obtain ⟨g, off, rfl, hg, hr⟩ := h3 h0
  obtain ⟨f1, f2⟩ := hf g rfl
  refine ⟨g, off, rfl, Nat.lt_of_lt_of_le hg k.size, fun j x hx => ?_⟩
  exact (World.cell?_of_block (w := w) (a := ⟨g, off + j, none⟩) (k.other g hg f1 f2)).trans (hr j x hx)
theorem eachS1 {b : Nat} {w : World} {v x : Value} {l : List Nat} (h : Stb b w v x l) : ∀ (j : Nat) (y : Value) (m : List Nat), [x][j]? = some y → [l][j]? = some m → Stb b w v y m := by
  intro j y m hx hm
  match j, hx, hm with
  | 0, hx, hm => simp at hx hm; subst hx; subst hm; exact h
theorem eachS2 {b : Nat} {w : World} {v x x2 : Value} {l l2 : List Nat} (h : Stb b w v x l) (h2 : Stb b w v x2 l2) : ∀ (j : Nat) (y : Value) (m : List Nat), [x, x2][j]? = some y → [l, l2][j]? = some m → Stb b w v y m := by
  intro j y m hx hm
  match j, hx, hm with
  | 0, hx, hm => simp at hx hm; subst hx; subst hm; exact h
  | 1, hx, hm => simp at hx hm; subst hx; subst hm; exact h2
end Go.Proofs.Ytpcejajidhfmpaa
namespace Go.Proofs.Ytpcejajidhfmpaa
open Go.RowKit
set_option linter.unusedVariables false

/-- Nothing but the block of a slice has turned. -/
def Onl (v : Value) (V W : World) : Prop := (∀ g, v.ownBlock = some g → Chg g V W) ∧ (v.ownBlock = none → W = V)
theorem Onl.refl (v : Value) (V : World) : Onl v V V := ⟨fun g _ => Chg.refl _ _, fun _ => rfl⟩
theorem Onl.set {v : Value} {V W : World} {g : Nat} (h : Onl v V W) (hg : v.ownBlock = some g) (i : Nat) (x : Value) : Onl v V (W.setCell ⟨g, i, none⟩ x) :=
  ⟨fun g' h' => by rw [hg] at h'; cases h'; exact (h.1 g hg).trans (chg_set _ _ _ _), fun h' => by rw [hg] at h'; cases h'⟩
theorem Onl.blk {v : Value} {V W : World} (h : Onl v V W) {b : Nat} {cs : Array Value} {t : TypeId} (hB : Blk V b cs t) (hn : v.ownBlock ≠ some b) : Blk W b cs t := by
  cases hv : v.ownBlock with
  | none => rw [h.2 hv]; exact hB
  | some g => exact hB.chg (h.1 g hv) (fun e => hn (by rw [hv, e]))
theorem Onl.own {v u : Value} {V W : World} (h : Onl v V W) {base e s n : Nat} {xs : List Value} (hO : V.ownsRow base e s u n xs) (hs : Sep v u) : W.ownsRow base e s u n xs := by
  cases hv : v.ownBlock with
  | none => rw [h.2 hv]; exact hO
  | some g => exact own_at hO (fun k hk => (h.1 g hv).other k (fun e => hs g hv (by rw [hk, e])))
theorem Onl.io {v u : Value} {V W : World} (h : Onl v V W) {base : Nat} {l : List Int} (hO : Io V base u l) (hs : Sep v u) : Io W base u l := h.own hO hs
theorem Onl.cn {v u : Value} {V W : World} (h : Onl v V W) {base : Nat} {l : List Int} (hO : Cn V base u l) (hs : Sep v u) : Cn W base u l := by
  obtain ⟨g, cap, rfl, h1⟩ := hO
  exact ⟨g, cap, rfl, h.io h1 hs⟩
theorem Onl.below {v : Value} {V W : World} (h : Onl v V W) {n : Nat} (hn : ∀ g, v.ownBlock = some g → n ≤ g) : Below n V W := by
  cases hv : v.ownBlock with
  | none => rw [h.2 hv]; exact Below.refl _ _
  | some g => exact (h.1 g hv).below (hn g hv)
theorem Cn.lt {W : World} {base : Nat} {v : Value} {l : List Int} (h : Cn W base v l) : ∀ k, v.ownBlock = some k → base ≤ k ∧ k < W.heap.size := by
  obtain ⟨g, cap, rfl, h1⟩ := h
  intro k hk
  exact h1.lt k hk
/-- A marked copy as a row of the call's own. -/
theorem Cn.row {W : World} {base n : Nat} {v : Value} {l : List Int} (h : Cn W base v l) (hn : l.length = n) : ∃ g cap, v = .slice (some ⟨g, 0, none⟩) n cap ∧ W.ownsRow base 3 1 (.slice (some ⟨g, 0, none⟩) (n + 1) cap) (n + 1) (ints (l ++ [-77])) := by
  subst hn
  obtain ⟨g, cap, rfl, h1⟩ := h
  refine ⟨g, cap, rfl, ?_⟩
  unfold Io at h1
  have e : (l ++ [-77]).length = l.length + 1 := by simp
  rwa [e] at h1
theorem eq_ck (k : Int) (a b : Nat) (w : World) : (binOp .eql 55 (errV (ckN k a b)) .nilIface).run Try.prog w = .ok (.bool (gdC k a b)) w := by
  cases h : gdC k a b
  · rw [ckN_no h]; kernel_rfl
  · rw [ckN_ok h]; kernel_rfl
theorem eqg_err (n : Nat) (x : Operand) (w : World) : (eqGuard .eql 55 x (.const .nilIface) (errV n) .nilIface).run Try.prog w = .ok () w := by
  unfold errV
  split
  · cases x <;> rfl
  · rfl
theorem beq_b (b : Bool) : (b == b) = true := by cases b <;> rfl
theorem bne_b (b : Bool) : (b != b) = false := by cases b <;> rfl
theorem zero_cg (w : World) : (zeroValue 26).run Try.prog w = .ok (.agg (cgC 0 (.slice none 0 0) (.slice none 0 0))) w := by kernel_rfl
/-- A marked copy stays where a block of another kind turns. -/
theorem Cn.other {W W' : World} {base g : Nat} {v : Value} {l : List Int} {cs : Array Value} {t : TypeId} (h : Cn W base v l) (hB : Blk W g cs t) (ht : t ≠ 3) (hc : Chg g W W') : Cn W' base v l := by
  obtain ⟨g', cap, rfl, h1⟩ := h
  exact ⟨g', cap, rfl, own_chgT h1 hc (blk_own h1 hB ht)⟩
theorem owns_len {W : World} {base n : Nat} {v : Value} {l : List Int} (h : W.ownsRow base 3 1 v n (ints l)) : l.length = n := by have h9 := h.1; rw [ints_len, Nat.mul_one] at h9; exact h9
end Go.Proofs.Ytpcejajidhfmpaa
namespace Go.Proofs.Ytpcejajidhfmpaa
open Go.ChangeShapes Go.WideShapes Go.ChangeAt Go.RowKit
set_option linter.unusedVariables false

/-- The kind of the integer in a type's cell number j. -/
def kindAt (P : Program) : Nat → TypeId → Nat → Option IntKind
  | 0, _, _ => none
  | d + 1, t, j =>
    match P.underlying t with
    | some (.int k) => if j = 0 then some k else none
    | some (.struct fs) => fs.toList.findSome? fun f => if f.offset ≤ j ∧ j < f.offset + P.cellsOf f.type then kindAt P d f.type (j - f.offset) else none
    | some (.array n e) => if j / P.cellsOf e < n then kindAt P d e (j % P.cellsOf e) else none
    | _ => none

section
variable {H : Type} {enc : TypeId × Value → H} {P : Program} {w : World} {base : Nat} {spare : Nat → Bool} {held : Bool}

theorem mapM_get {α β : Type} {f : α → Option β} : ∀ {l : List α} {ys : List β}, l.mapM f = some ys → ∀ x ∈ l, ∃ y, f x = some y
  | [], _, _, x, hx => by cases hx
  | a :: l, ys, h, x, hx => by
    rw [List.mapM_cons] at h
    simp only [bind, Option.bind_eq_some_iff, pure, Option.some.injEq] at h
    obtain ⟨y, hy, zs, hz, _⟩ := h
    rcases List.mem_cons.1 hx with rfl | hx
    · exact ⟨y, hy⟩
    · exact mapM_get hz x hx

theorem drop_take_get {cs : List Value} {o c j : Nat} {v : Value} (h : ((cs.drop o).take c)[j - o]? = some v) (hj : o ≤ j) : cs[j]? = some v := by
  have hlt : j - o < ((cs.drop o).take c).length := (List.getElem?_eq_some_iff.1 h).1
  rw [List.getElem?_take_of_lt (by simp at hlt; omega), List.getElem?_drop, show o + (j - o) = j by omega] at h
  exact h

theorem flat_cell : ∀ (d : Nat) (fuel : Nat) (t : TypeId) (cs : List Value) (x : DataW H × List MemPlace) (j : Nat) (k : IntKind), DataW.trod enc P w base spare held fuel t cs = some x → kindAt P d t j = some k →
    ∃ v, cs[j]? = some (.int k v) ∧ (Lit.int k v).wf = true
  | 0, _, _, _, _, _, _, _, hk => by simp [kindAt] at hk
  | d + 1, fuel, t, cs, x, j, k, h, hk => by
    unfold kindAt at hk
    split at hk
    · rename_i k' hu
      split at hk
      · rename_i hj
        subst hj
        cases hk
        cases fuel with
        | zero => simp [DataW.trod] at h
        | succ fuel =>
          unfold DataW.trod at h
          rw [hu] at h
          split at h <;> simp_all
      · cases hk
    · rename_i fs hu
      obtain ⟨f, hf, hk⟩ := List.exists_of_findSome?_eq_some hk
      split at hk
      · rename_i hr
        obtain ⟨xs, n, _, _, _, hxl, hx⟩ := DataW.trod_struct hu h
        obtain ⟨i, hi, hfi⟩ := List.mem_iff_getElem.1 hf
        have hi' : i < fs.size := by simpa using hi
        have hg : fs[i]? = some f := by rw [Array.getElem?_eq_getElem hi']; simpa using hfi
        have := hx i f hg
        rw [List.getElem?_eq_getElem (by omega)] at this
        obtain ⟨v, hv, hwf⟩ := flat_cell d n f.type _ _ (j - f.offset) k this hk
        exact ⟨v, drop_take_get hv hr.1, hwf⟩
      · cases hk
    · rename_i n e hu
      split at hk
      · rename_i hr
        obtain ⟨xs, m, _, _, _, hxl, hx⟩ := DataW.trod_array hu h
        have := hx (j / P.cellsOf e) hr
        rw [List.getElem?_eq_getElem (by omega)] at this
        obtain ⟨v, hv, hwf⟩ := flat_cell d m e _ _ (j % P.cellsOf e) k this hk
        have e1 := Nat.div_add_mod j (P.cellsOf e)
        refine ⟨v, drop_take_get (o := j / P.cellsOf e * P.cellsOf e) (c := P.cellsOf e) ?_ (by rw [Nat.mul_comm]; omega), hwf⟩
        rw [show j - j / P.cellsOf e * P.cellsOf e = j % P.cellsOf e by rw [Nat.mul_comm]; omega]
        exact hv
      · cases hk
    · cases hk

/-- A struct or an array of integers alone that came in. -/
theorem open_flat {r : Reach} {b0 n D : Nat} {t : TypeId} {td : TypeDesc} {v : Value} {d : DataW H} {p : List MemPlace} (ks : Nat → IntKind) (hu : P.underlying t = some td) (hd : td.isRow = true) (hC : P.cellsOf t = n) (hk : ∀ j, j < n → kindAt P D t j = some (ks j))
    (hv : Value.okWide P w r b0 t v) (h : DataW.Trod enc P w base spare held t v d p) :
    ∃ c : Nat → Int, v = .agg ((List.range n).map fun j => Value.int (ks j) (c j)).toArray ∧ ∀ j, j < n → (Lit.int (ks j) (c j)).wf = true := by
  obtain ⟨cs, rfl, hs⟩ : ∃ cs, v = .agg cs ∧ cs.size = P.cellsOf t := by
    simp only [Value.okWide, hu] at hv
    cases td <;> simp_all [TypeDesc.isRow]
    all_goals (obtain ⟨cs, h1, h2, _⟩ := hv; exact ⟨cs, h1, h2⟩)
  obtain ⟨fuel, hf⟩ := h
  have hall : ∀ j, j < n → ∃ v : Int, cs[j]? = some (.int (ks j) v) ∧ (Lit.int (ks j) v).wf = true := fun j hj => by
    obtain ⟨v, hv, hwf⟩ := flat_cell D fuel t _ _ j (ks j) hf (hk j hj)
    exact ⟨v, by simpa [Value.cells] using hv, hwf⟩
  obtain ⟨c, hc⟩ := Deep.choose_lt hall
  refine ⟨c, ?_, fun j hj => (hc j hj).2⟩
  congr 1
  apply Array.ext_getElem?
  intro j
  by_cases hj : j < n
  · rw [(hc j hj).1]; simp [hj]
  · rw [Array.getElem?_eq_none (by omega), Array.getElem?_eq_none (by simp; omega)]

theorem add_plain (a : Addr) (h : a.spot = none) (i : Nat) : a.add i = ⟨a.block, a.off + i, none⟩ := by
  obtain ⟨b, o, s⟩ := a
  cases h
  unfold Addr.add
  split <;> simp_all

theorem spot_of_cell {a : Addr} {v : Value} (h : w.cell? a = some v) : a.spot = none := by
  unfold World.cell? at h
  split at h
  · split at h
    · cases h
    · rename_i hs; simpa using hs
  · cases h

/-- A slice whose elements are made of integers alone. -/
theorem open_rows {r : Reach} {b0 n D : Nat} {t e : TypeId} {v : Value} {d : DataW H} {p : List MemPlace} (ks : Nat → IntKind) (ht : P.underlying t = some (.slice e)) (hC : P.cellsOf e = n) (hn : 0 < n) (hk : ∀ j, j < n → kindAt P D e j = some (ks j))
    (hv : Value.okWide P w r b0 t v) (h : DataW.Trod enc P w base spare held t v d p) :
    ∃ (q : Option Addr) (g off len cap : Nat) (l : List (Nat → Int)), v = .slice q len cap ∧ l.length = len ∧ len ≤ cap ∧ cap ≤ maxLen ∧ (0 < len → q = some ⟨g, off, none⟩) ∧ (0 < len → g < w.heap.size) ∧
      ∀ j c, l[j]? = some c → ∀ i, i < n → w.cell? ⟨g, off + j * n + i, none⟩ = some (.int (ks i) (c i)) ∧ (Lit.int (ks i) (c i)).wf = true := by
  obtain ⟨a, len, cap, rfl⟩ := okWide_slice ht hv
  obtain ⟨fuel, hf⟩ := h
  rcases Deep.open_slice ht hf with ⟨hcs, _⟩ | ⟨a', len', cap', m, n', D', Pl, hcs, hb, hl, hm, hmm, hx, hel⟩
  · have e1 : (Value.slice a len cap) = .slice none 0 0 := by simpa [Value.cells] using hcs
    cases e1
    exact ⟨none, 0, 0, 0, 0, [], rfl, rfl, by omega, by unfold maxLen; omega, fun h => absurd h (by omega), fun h => absurd h (by omega), fun j c hc => by simp at hc⟩
  · have e1 : (Value.slice a len cap) = .slice (some a') len' cap' := by simpa [Value.cells] using hcs
    cases e1
    have hle : len ≤ m := by rw [hmm]; split <;> omega
    have hcell : ∀ j, j < len → ∃ c : Nat → Int, ∀ i, i < n → w.cell? ((a'.add (j * n)).add i) = some (.int (ks i) (c i)) ∧ (Lit.int (ks i) (c i)).wf = true := by
      intro j hj
      obtain ⟨cs', h1, h2⟩ := hel j (by omega)
      rw [hC] at h1
      obtain ⟨_, h3, h4⟩ := World.cells?_some h1
      have : ∀ i, i < n → ∃ v : Int, w.cell? ((a'.add (j * n)).add i) = some (.int (ks i) v) ∧ (Lit.int (ks i) v).wf = true := fun i hi => by
        obtain ⟨v, hv, hwf⟩ := flat_cell D n' e cs' _ i (ks i) h2 (hk i hi)
        exact ⟨v, (h4 i hi).trans hv, hwf⟩
      obtain ⟨c, hc⟩ := Deep.choose_lt this
      exact ⟨c, hc⟩
    obtain ⟨L, hL⟩ := Deep.choose_lt (α := Nat → Int) hcell
    refine ⟨some a', a'.block, a'.off, len, cap, (List.range len).map L, rfl, by simp, hl, hm, fun h0 => ?_, fun h0 => ?_, fun j c hc i hi => ?_⟩
    · have := spot_of_cell (hL 0 h0 0 hn).1
      rw [Nat.zero_mul] at this
      have h1 : a'.spot = none := by simpa [Addr.add] using this
      obtain ⟨b, o, s⟩ := a'; cases h1; rfl
    · have h1 := (hL 0 h0 0 hn).1
      have := World.block_lt_of_cell? w _ h1
      simpa [Addr.add] using this
    · have hj : j < len := by have := (List.getElem?_eq_some_iff.1 hc).1; simpa using this
      have hcj : c = L j := by simp [hj] at hc; exact hc.symm
      subst hcj
      have h0 := (hL 0 (by omega) 0 hn).1
      have hs : a'.spot = none := by have := spot_of_cell h0; simpa [Addr.add] using this
      have h1 := hL j hj i hi
      rw [add_plain _ hs, add_plain _ rfl] at h1
      exact h1
theorem kinds_of {n D : Nat} {t : TypeId} {ks : Nat → IntKind} (h : (List.range n).map (kindAt P D t) = (List.range n).map fun j => some (ks j)) : ∀ j, j < n → kindAt P D t j = some (ks j) := fun j hj => by
  have := congrArg (·[j]?) h
  simpa [hj] using this
end
end Go.Proofs.Ytpcejajidhfmpaa
namespace Go.Proofs.Ytpcejajidhfmpaa
open Go.ChangeShapes Go.WideShapes Go.ChangeAt Go.RowKit
set_option linter.unusedVariables false

section
variable {H : Type} {enc : TypeId × Value → H} {P : Program} {w : World} {base : Nat} {spare : Nat → Bool} {held : Bool}
/-- A struct that came in: its cells, and what each field reads as. -/
theorem open_struct {r : Reach} {b0 n : Nat} {t : TypeId} {fs : Array Field} {v : Value} {d : DataW H} {p : List MemPlace} (hu : P.underlying t = some (.struct fs)) (hC : P.cellsOf t = n)
    (hv : Value.okWide P w r b0 t v) (h : DataW.Trod enc P w base spare held t v d p) :
    ∃ cs : Array Value, v = .agg cs ∧ cs.size = n ∧ ∃ m, ∀ (i : Nat) (f : Field), fs[i]? = some f → ∃ x, DataW.trod enc P w base spare held m f.type ((cs.toList.drop f.offset).take (P.cellsOf f.type)) = some x := by
  obtain ⟨cs, rfl, hs⟩ : ∃ cs, v = .agg cs ∧ cs.size = P.cellsOf t := by
    simp only [Value.okWide, hu] at hv
    obtain ⟨cs, h1, h2, _⟩ := hv; exact ⟨cs, h1, h2⟩
  obtain ⟨fuel, hf⟩ := h
  obtain ⟨xs, m, _, _, _, hl, hx⟩ := DataW.trod_struct hu hf
  refine ⟨cs, rfl, hs.trans hC, m, fun i f hi => ?_⟩
  have := hx i f hi
  have hlt : i < xs.length := by rw [hl]; exact (Array.getElem?_eq_some_iff.1 hi).1
  rw [List.getElem?_eq_getElem hlt] at this
  exact ⟨_, by simpa [Value.cells] using this⟩
/-- A slice among a struct's fields whose elements are made of integers alone. -/
theorem rows_of {n D fuel : Nat} {t e : TypeId} {cs : List Value} {x : DataW H × List MemPlace} (ks : Nat → IntKind) (ht : P.underlying t = some (.slice e)) (hC : P.cellsOf e = n) (hn : 0 < n) (hk : ∀ j, j < n → kindAt P D e j = some (ks j))
    (hf : DataW.trod enc P w base spare held fuel t cs = some x) :
    ∃ (q : Option Addr) (g off len cap : Nat) (l : List (Nat → Int)), cs = [.slice q len cap] ∧ l.length = len ∧ len ≤ cap ∧ cap ≤ maxLen ∧ (0 < len → q = some ⟨g, off, none⟩) ∧ (0 < len → g < w.heap.size) ∧
      ∀ j c, l[j]? = some c → ∀ i, i < n → w.cell? ⟨g, off + j * n + i, none⟩ = some (.int (ks i) (c i)) ∧ (Lit.int (ks i) (c i)).wf = true := by
  rcases Deep.open_slice ht hf with ⟨hcs, _⟩ | ⟨a', len, cap, m, n', D', Pl, hcs, hb, hl, hm, hmm, hx, hel⟩
  · exact ⟨none, 0, 0, 0, 0, [], hcs, rfl, by omega, by unfold maxLen; omega, fun h => absurd h (by omega), fun h => absurd h (by omega), fun j c hc => by simp at hc⟩
  · have hle : len ≤ m := by rw [hmm]; split <;> omega
    have hcell : ∀ j, j < len → ∃ c : Nat → Int, ∀ i, i < n → w.cell? ((a'.add (j * n)).add i) = some (.int (ks i) (c i)) ∧ (Lit.int (ks i) (c i)).wf = true := by
      intro j hj
      obtain ⟨cs', h1, h2⟩ := hel j (by omega)
      rw [hC] at h1
      obtain ⟨_, h3, h4⟩ := World.cells?_some h1
      have : ∀ i, i < n → ∃ v : Int, w.cell? ((a'.add (j * n)).add i) = some (.int (ks i) v) ∧ (Lit.int (ks i) v).wf = true := fun i hi => by
        obtain ⟨v, hv, hwf⟩ := flat_cell D n' e cs' _ i (ks i) h2 (hk i hi)
        exact ⟨v, (h4 i hi).trans hv, hwf⟩
      obtain ⟨c, hc⟩ := Deep.choose_lt this
      exact ⟨c, hc⟩
    obtain ⟨L, hL⟩ := Deep.choose_lt (α := Nat → Int) hcell
    refine ⟨some a', a'.block, a'.off, len, cap, (List.range len).map L, hcs, by simp, hl, hm, fun h0 => ?_, fun h0 => ?_, fun j c hc i hi => ?_⟩
    · have := spot_of_cell (hL 0 h0 0 hn).1
      rw [Nat.zero_mul] at this
      have h1 : a'.spot = none := by simpa [Addr.add] using this
      obtain ⟨b, o, s⟩ := a'; cases h1; rfl
    · have h1 := (hL 0 h0 0 hn).1
      have := World.block_lt_of_cell? w _ h1
      simpa [Addr.add] using this
    · have hj : j < len := by have := (List.getElem?_eq_some_iff.1 hc).1; simpa using this
      have hcj : c = L j := by simp [hj] at hc; exact hc.symm
      subst hcj
      have h0 := (hL 0 (by omega) 0 hn).1
      have hs : a'.spot = none := by have := spot_of_cell h0; simpa [Addr.add] using this
      have h1 := hL j hj i hi
      rw [add_plain _ hs, add_plain _ rfl] at h1
      exact h1
end
end Go.Proofs.Ytpcejajidhfmpaa
