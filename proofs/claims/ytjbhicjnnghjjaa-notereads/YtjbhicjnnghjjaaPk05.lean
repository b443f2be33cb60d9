/-
  Slices that are each its own; frame.Split, frame.Unwrap, frame.Nums.
  append of numbers onto an own slice of numbers, and where it lies then.
  The numbers that bytes consist of: frame.Nums.
  Which sample is later: cmp.Compare, cmp.Or at numbers, cell.Later and the document's Later.
-/
import Derived.Test.YtjbhicjnnghjjaaPk04
import Derived.Test.YtjbhicjnnghjjaaPk02
import Derived.Deep.RegionHeld3
namespace Go.Proofs.Ytjbhicjnnghjjaa
open Go.RowKit
set_option linter.unusedVariables false

/-- Two slices whose blocks differ. -/
def Sep (a b : Value) : Prop := ∀ k, a.ownBlock = some k → b.ownBlock ≠ some k
theorem Sep.symm {a b : Value} (h : Sep a b) : Sep b a := fun k hk he => h k he hk
theorem sep_lt {a b : Value} {m : Nat} (h : ∀ k, a.ownBlock = some k → k < m) (g : ∀ k, b.ownBlock = some k → m ≤ k) : Sep a b := fun k hk he => by
  have := h k hk; have := g k he; omega
theorem Sep.row {a b : Value} (h : Sep a b) : a.ownBlock = none ∨ a.ownBlock ≠ b.ownBlock := by
  cases ha : a.ownBlock with
  | none => exact .inl rfl
  | some k => exact .inr (fun e => h k ha e.symm)
theorem Ow.lt {W : World} {base : Nat} {v : Value} {l : List Nat} (h : Ow W base v l) : ∀ k, v.ownBlock = some k → base ≤ k ∧ k < W.heap.size := World.ownsRow.lt h
theorem Ow.kept {W W' : World} {base : Nat} {v x : Value} {l : List Nat} (h : Ow W base v l) (hg : W.grownBy W' x.ownBlock) (hs : Sep v x) : Ow W' base v l := World.ownsRow.kept h hg hs.row
/-- Slices of bytes of the call's own, no two of one block. -/
structure Bag (W : World) (base : Nat) (vs : List Value) (ls : List (List Nat)) : Prop where
  len : vs.length = ls.length
  own : ∀ (j : Nat) (v : Value) (l : List Nat), vs[j]? = some v → ls[j]? = some l → Ow W base v l
  sep : ∀ (i j : Nat) (v u : Value), i ≠ j → vs[i]? = some v → vs[j]? = some u → Sep v u
theorem Bag.lt {W : World} {base : Nat} {vs : List Value} {ls : List (List Nat)} (h : Bag W base vs ls) {j : Nat} {v : Value} (hv : vs[j]? = some v) : ∀ k, v.ownBlock = some k → base ≤ k ∧ k < W.heap.size := by
  have hj : j < ls.length := by rw [← h.len]; exact (List.getElem?_eq_some_iff.1 hv).1
  exact (h.own j v _ hv (List.getElem?_eq_getElem hj)).lt
theorem Bag.keep {W W' : World} {base : Nat} {vs : List Value} {ls : List (List Nat)} (h : Bag W base vs ls) (hb : Below W.heap.size W W') : Bag W' base vs ls :=
  ⟨h.len, fun j v l hv hl => (h.own j v l hv hl).keep hb, h.sep⟩
theorem Bag.kept {W W' : World} {base : Nat} {vs : List Value} {ls : List (List Nat)} {x : Value} (h : Bag W base vs ls) (hg : W.grownBy W' x.ownBlock) (hs : ∀ (j : Nat) (v : Value), vs[j]? = some v → Sep v x) : Bag W' base vs ls :=
  ⟨h.len, fun j v l hv hl => (h.own j v l hv hl).kept hg (hs j v hv), h.sep⟩
theorem Bag.nil (W : World) (base : Nat) : Bag W base [] [] := ⟨rfl, fun j v l hv => by simp at hv, fun i j v u _ hv => by simp at hv⟩
theorem snoc_at {α : Type} {l : List α} {x y : α} {j : Nat} (h : (l ++ [x])[j]? = some y) : (j < l.length ∧ l[j]? = some y) ∨ (j = l.length ∧ y = x) := by
  by_cases c : j < l.length
  · rw [List.getElem?_append_left c] at h; exact .inl ⟨c, h⟩
  · rw [List.getElem?_append_right (by omega)] at h
    right
    have : j - l.length < [x].length := (List.getElem?_eq_some_iff.1 h).1
    simp at this
    have e : j - l.length = 0 := by omega
    rw [e] at h
    simp at h
    exact ⟨by omega, h.symm⟩
theorem Bag.snoc {W : World} {base : Nat} {vs : List Value} {ls : List (List Nat)} {u : Value} {f : List Nat} (h : Bag W base vs ls) (hu : Ow W base u f) (hs : ∀ (j : Nat) (v : Value), vs[j]? = some v → Sep v u) : Bag W base (vs ++ [u]) (ls ++ [f]) := by
  refine ⟨by simp [h.len], fun j v l hv hl => ?_, fun i j v x hij hv hx => ?_⟩
  · rcases snoc_at hv with ⟨h1, h2⟩ | ⟨h1, h2⟩ <;> rcases snoc_at hl with ⟨h3, h4⟩ | ⟨h3, h4⟩
    · exact h.own j v l h2 h4
    · have := h.len; omega
    · have := h.len; omega
    · subst h2; subst h4; exact hu
  · rcases snoc_at hv with ⟨h1, h2⟩ | ⟨h1, h2⟩ <;> rcases snoc_at hx with ⟨h3, h4⟩ | ⟨h3, h4⟩
    · exact h.sep i j v x hij h2 h4
    · subst h4; exact hs i v h2
    · subst h2; exact (hs j x h4).symm
    · omega
theorem Bag.ls {W : World} {base : Nat} {vs : List Value} {ls : List (List Nat)} (h : Bag W base vs ls) {v : Value} {b n : Nat} (ho : W.ownsRow b 30 1 v n vs) : Ls W v vs ls := by
  obtain ⟨h1, q, g, cap, rfl, hp, hg, _, _, hc, hm, hr, _⟩ := own_open ho (by omega)
  rw [Nat.mul_one] at h1
  subst h1
  exact ⟨h.len, ⟨q, cap, rfl, hc, hm, fun h0 => ⟨g, 0, hp h0, hg h0, fun j x hx => by rw [Nat.zero_add]; exact hr j x hx⟩⟩, fun j x l hx hl => (h.own j x l hx hl).sl⟩
section
variable {ops : Array Oper} {rest : List Oper} {o : Oper} {a : Act} {w : World} {Q : Exit → Act → World → Prop}
/-- append of one slice of bytes onto an own list of such: its run. -/
theorem app1_run (A : World) (ty : TypeId) {v u : Value} {n g c : Nat} {vs : List Value} (hown : w.ownsRow A.heap.size 30 1 v n vs) (hu : ∃ q m c, u = .slice q m c) (hcell : w.cell? ⟨g, 0, none⟩ = some u) (h63 : n + 1 ≤ 1000000) (hA : Below A.heap.size A w) :
    ∃ v' w', (Builtin.append_ #[98, 98] ty #[v, .slice (some ⟨g, 0, none⟩) 1 c]).run Try.prog w = .ok v' w' ∧ w'.ownsRow A.heap.size 30 1 v' (n + 1) (vs ++ [u]) ∧ v' ≠ .slice none 0 0 ∧ Below A.heap.size A w' ∧ w.grownBy w' v.ownBlock ∧ (v'.ownBlock = v.ownBlock ∨ v'.ownBlock = some w.heap.size) := by
  obtain ⟨i, hi, hz0, hz1, hz2⟩ := info_parts infoBytes
  obtain ⟨v', w', hr, h2, h3, h4, h5⟩ := run_append_own_at (P := Try.prog) w A.heap.size 98 ty 30 i _ 1 24 Try.underlying98 hi hz0 hz1 hz2 rfl (by omega) v n vs hown ⟨g, 0, none⟩ 1 c [u] rfl (fun j x hx => by
      match j, hx with
      | 0, hx => simp at hx; subst hx; rw [Addr.add_mid]; exact hcell) (fun x hx => by simp at hx; subst hx; obtain ⟨q, m, c, rfl⟩ := hu; rfl) (by unfold maxLen; omega) (by omega) hA.size
  refine ⟨v', w', hr, h2, fun e => by have := h4.1 e; omega, ?_, h3, h5⟩
  refine hA.grown h3 hA.size (fun r hr => ?_)
  rcases hown.2 with ⟨rfl, _⟩ | ⟨g', cap', cur', rfl, hbg, _⟩
  · cases hr
  · cases hr; exact hbg
theorem app1 (A : World) (hw : Region.wanted o (yielded ops a.tmps) = true) {s x : Operand} (ho : o.op = .call { callee := .builtin .append, args := #[s, x], argTypes := #[98, 98] })
    {v u : Value} {n g c : Nat} {vs : List Value} (hs : a.eval s = v) (hown : w.ownsRow A.heap.size 30 1 v n vs) (hx : a.eval x = .slice (some ⟨g, 0, none⟩) 1 c) (hu : ∃ q m c, u = .slice q m c) (hcell : w.cell? ⟨g, 0, none⟩ = some u) (h63 : n + 1 ≤ 1000000) (hA : Below A.heap.size A w)
    (h : ∀ v' w', w'.ownsRow A.heap.size 30 1 v' (n + 1) (vs ++ [u]) → v' ≠ .slice none 0 0 → Below A.heap.size A w' → w.grownBy w' v.ownBlock → (v'.ownBlock = v.ownBlock ∨ v'.ownBlock = some w.heap.size) → wpList Try.prog ops Q rest (a.put o.dst v') w') : wpList Try.prog ops Q (o :: rest) a w := by
  unfold wpList
  rw [if_pos hw]
  left
  obtain ⟨v', w', hr, h1, h2, h3, h4, h5⟩ := app1_run (c := c) A o.type hown hu hcell h63 hA
  unfold Oper.wp execOp
  simp only [ho, resolve, invoke, builtin, Sem.run_bind, Sem.run_pure, Result.andThen_ok, List.map_toArray, List.map_cons, List.map_nil, hs, hx, hr]
  exact h v' w' h1 h2 h3 h4 h5
end
/-- A list and its slices, each of its own. -/
structure Lis (W : World) (base : Nat) (v : Value) (vs : List Value) (ls : List (List Nat)) : Prop where
  row : W.ownsRow base 30 1 v ls.length vs
  bag : Bag W base vs ls
  sep : ∀ (j : Nat) (u : Value), vs[j]? = some u → Sep u v
theorem Lis.nil (W : World) (base : Nat) : Lis W base (.slice none 0 0) [] [] := ⟨World.ownsRow_nil W _ _ _, .nil W base, fun j u h => by simp at h⟩
/-- Behind an append of one more. -/
theorem Lis.snoc {W0 W W' : World} {base : Nat} {v v' u : Value} {vs : List Value} {ls : List (List Nat)} {f : List Nat} (h : Lis W0 base v vs ls) (hb : Below W0.heap.size W0 W) (hu : Ow W W0.heap.size u f) (hbs : base ≤ W0.heap.size)
    (hown : W'.ownsRow base 30 1 v' (ls.length + 1) (vs ++ [u])) (hg : W.grownBy W' v.ownBlock) (hat : v'.ownBlock = v.ownBlock ∨ v'.ownBlock = some W.heap.size) : Lis W' base v' (vs ++ [u]) (ls ++ [f]) := by
  have hvl : ∀ k, v.ownBlock = some k → k < W0.heap.size := fun k hk => (World.ownsRow.lt h.row k hk).2
  have huv : Sep u v := (sep_lt hvl (fun k hk => (hu.lt k hk).1)).symm
  have hsu : ∀ (j : Nat) (x : Value), vs[j]? = some x → Sep x u := fun j x hx => sep_lt (fun k hk => (h.bag.lt hx k hk).2) (fun k hk => (hu.lt k hk).1)
  have B := ((h.bag.keep hb).snoc (hu.less hbs) hsu)
  have hs2 : ∀ (j : Nat) (x : Value), (vs ++ [u])[j]? = some x → Sep x v := fun j x hx => by
    rcases snoc_at hx with ⟨_, h2⟩ | ⟨_, h2⟩
    · exact h.sep j x h2
    · subst h2; exact huv
  refine ⟨by rw [List.length_append]; exact hown, B.kept hg hs2, fun j x hx => ?_⟩
  rcases hat with e | e
  · intro k hk; rw [e]; exact hs2 j x hx k hk
  · intro k hk he
    rw [e] at he
    have := (B.lt hx k hk).2
    simp at he
    omega
theorem Lis.keep {W W' : World} {base : Nat} {v : Value} {vs : List Value} {ls : List (List Nat)} (h : Lis W base v vs ls) (hb : Below W.heap.size W W') : Lis W' base v vs ls := ⟨own_keep h.row hb, h.bag.keep hb, h.sep⟩
theorem Ow.form {W : World} {base : Nat} {v : Value} {l : List Nat} (h : Ow W base v l) : ∃ q cap, v = .slice q l.length cap := by
  obtain ⟨q, cap, e, _⟩ := h.sl
  exact ⟨q, cap, e⟩

/-- The number of a slot. -/
def numOf : Value → Nat
  | .int _ n => n.toNat
  | _ => 0
theorem spt_at (l : List Nat) (fs : List (List Nat)) (h : spt l = fs ++ spt (l.drop (spN fs))) (hok : insOK (l.drop (spN fs)) = true) :
    spt l = (fs ++ [insB (l.drop (spN fs))]) ++ spt (l.drop (spN (fs ++ [insB (l.drop (spN fs))]))) := by
  rw [h, spt_go hok, spN_snoc, List.drop_drop, List.append_assoc]; rfl
end Go.Proofs.Ytjbhicjnnghjjaa
namespace Go.Proofs.Ytjbhicjnnghjjaa
open Go.RowKit
set_option linter.unusedVariables false

/-- What append asks of its source. -/
theorem Is.src {W : World} {v : Value} {l : List Int} (h : Is W v l) : ∃ q cap, v = .slice q l.length cap ∧ (q = none → l.length = 0) ∧ (∀ ad, q = some ad → ∀ j u, (ints l)[j]? = some u → W.cell? (ad.add j) = some u) := by
  obtain ⟨q, cap, g, off, rfl, h1, h2, h3, h4, h5⟩ := h
  refine ⟨q, cap, rfl, fun hq => ?_, fun ad had j u hu => ?_⟩
  · by_cases h0 : 0 < l.length
    · have e := h3 h0
      rw [hq] at e; cases e
    · omega
  · rw [ints_at] at hu
    cases hx : l[j]? with
    | none => rw [hx] at hu; simp at hu
    | some x =>
      rw [hx] at hu
      have e := h3 (by have := (List.getElem?_eq_some_iff.1 hx).1; omega)
      rw [had] at e
      cases e
      rw [Addr.add_mid, h5 j x hx]
      simpa using hu
/-- A slice of numbers of the call's own. -/
def Io (W : World) (base : Nat) (v : Value) (l : List Int) : Prop := W.ownsRow base 3 1 v l.length (ints l)
theorem io_of {W : World} {base n : Nat} {v : Value} {l : List Int} (h : W.ownsRow base 3 1 v n (ints l)) : Io W base v l := by
  have := h.1
  rw [ints_len, Nat.mul_one] at this
  unfold Io
  rw [this]
  exact h
theorem Io.is {W : World} {base : Nat} {v : Value} {l : List Int} (h : Io W base v l) : Is W v l := own_is h
theorem Io.keep {W W' : World} {base : Nat} {v : Value} {l : List Int} (h : Io W base v l) (hb : Below W.heap.size W W') : Io W' base v l := own_keep h hb
theorem Io.less {W : World} {base base' : Nat} {v : Value} {l : List Int} (h : Io W base v l) (hb : base' ≤ base) : Io W base' v l := own_less h hb
theorem Io.lt {W : World} {base : Nat} {v : Value} {l : List Int} (h : Io W base v l) : ∀ k, v.ownBlock = some k → base ≤ k ∧ k < W.heap.size := World.ownsRow.lt h
theorem Io.kept {W W' : World} {base : Nat} {v x : Value} {l : List Int} (h : Io W base v l) (hg : W.grownBy W' x.ownBlock) (hs : Sep v x) : Io W' base v l := World.ownsRow.kept h hg hs.row
/-- Blocks stay apart where one of them grows. -/
theorem sep_at {a b b' : Value} {m : Nat} (h : Sep a b) (hl : ∀ k, a.ownBlock = some k → k < m) (hat : b'.ownBlock = b.ownBlock ∨ b'.ownBlock = some m) : Sep a b' := by
  intro k hk
  rcases hat with e | e
  · rw [e]; exact h k hk
  · rw [e]; intro he; have := hl k hk; simp at he; omega
section
variable {ops : Array Oper} {rest : List Oper} {o : Oper} {a : Act} {w : World} {Q : Exit → Act → World → Prop}
theorem appi_run (A : World) (ty : TypeId) {v vx : Value} {n k : Nat} {l m : List Int} (hown : w.ownsRow A.heap.size 3 1 v n (ints l)) (hsl : Is w vx m) (hm : m.length = k) (h63 : n + k ≤ 1000000) (hA : Below A.heap.size A w) :
    ∃ v' w', (Builtin.append_ #[22, 22] ty #[v, vx]).run Try.prog w = .ok v' w' ∧ w'.ownsRow A.heap.size 3 1 v' (n + k) (ints (l ++ m)) ∧ (v' = .slice none 0 0 ↔ v = .slice none 0 0 ∧ k = 0) ∧ Below A.heap.size A w' ∧ w.grownBy w' v.ownBlock ∧ (v'.ownBlock = v.ownBlock ∨ v'.ownBlock = some w.heap.size) := by
  obtain ⟨i, hi, hz0, hz1, hz2⟩ := info_parts infoInt
  subst hm
  obtain ⟨q, cap, rfl, hq, hsrc⟩ := hsl.src
  cases q with
  | none =>
    have h0 := hq rfl
    have hm0 : m = [] := List.eq_nil_of_length_eq_zero h0
    subst hm0
    exact ⟨v, w, append_none (P := Try.prog) w A.heap.size 22 ty 3 i 1 cap Try.underlying22 hi v n (ints l) hown, by simpa using hown, by simp, hA, ⟨rfl, rfl, rfl, Nat.le_refl _, fun _ _ _ => rfl⟩, .inl rfl⟩
  | some ad =>
    obtain ⟨v', w', hr, h2, h3, h4, h5⟩ := run_append_own_at (P := Try.prog) w A.heap.size 22 ty 3 i _ 1 8 Try.underlying22 hi hz0 hz1 hz2 rfl (by omega) v n (ints l) hown ad m.length cap (ints m) (by rw [ints_len, Nat.mul_one]) (hsrc ad rfl) (ints_one m) (by unfold maxLen; omega) (by omega) hA.size
    refine ⟨v', w', hr, by rw [← ints_append]; exact h2, h4, ?_, h3, h5⟩
    refine hA.grown h3 hA.size (fun r hr => ?_)
    rcases hown.2 with ⟨rfl, _⟩ | ⟨g', cap', cur', rfl, hbg, _⟩
    · cases hr
    · cases hr; exact hbg
theorem app_i (A : World) (hw : Region.wanted o (yielded ops a.tmps) = true) {s x : Operand} (ho : o.op = .call { callee := .builtin .append, args := #[s, x], argTypes := #[22, 22] })
    {v vx : Value} {n k : Nat} {l m : List Int} (hs : a.eval s = v) (hown : w.ownsRow A.heap.size 3 1 v n (ints l)) (hx : a.eval x = vx) (hsl : Is w vx m) (hm : m.length = k) (h63 : n + k ≤ 1000000) (hA : Below A.heap.size A w)
    (h : ∀ v' w', w'.ownsRow A.heap.size 3 1 v' (n + k) (ints (l ++ m)) → (v' = .slice none 0 0 ↔ v = .slice none 0 0 ∧ k = 0) → Below A.heap.size A w' → w.grownBy w' v.ownBlock → (v'.ownBlock = v.ownBlock ∨ v'.ownBlock = some w.heap.size) → wpList Try.prog ops Q rest (a.put o.dst v') w') : wpList Try.prog ops Q (o :: rest) a w := by
  unfold wpList
  rw [if_pos hw]
  left
  obtain ⟨v', w', hr, h1, h2, h3, h4, h5⟩ := appi_run A o.type hown hsl hm h63 hA
  unfold Oper.wp execOp
  simp only [ho, resolve, invoke, builtin, Sem.run_bind, Sem.run_pure, Result.andThen_ok, List.map_toArray, List.map_cons, List.map_nil, hs, hx, hr]
  exact h v' w' h1 h2 h3 h4 h5
/-- An operation that yields, at one operation. -/
theorem valWf {K : Act → World → Prop} (d : Option Tmp) (hd : o.dst = d) (v : Value) (hr : (execOp a.eval o).run Try.prog w = .ok (.value v) w) (h : K (a.put d v) w) : o.wp Try.prog a w K Q := by
  subst hd
  unfold Oper.wp
  rw [hr, Oper.upon_value]
  exact h
theorem cv_run {ρ : Operand → Value} {x : Operand} (ho : o.op = .convert 30 9 x) {v : Value} {l : List Nat} (hx : ρ x = v) (h : Sl w v l) : (execOp ρ o).run Try.prog w = .ok (.value (.string (strB l))) w := by
  unfold execOp
  simp only [ho, hx, Sem.run_bind, sl_str h, Result.andThen_ok, Sem.run_pure]
/-- A slice of numbers, just made: at one operation. -/
theorem bs_iW {K : Act → World → Prop} (d : Option Tmp) (hd : o.dst = d) {n : Nat} {parts : Array (Nat × Operand)} (ho : o.op = .buildSlice 22 n parts) (xs : List Int) {vs : Array (Nat × Value)} (hl : parts.map (fun (i, x) => (i, a.eval x)) = vs)
    (hrun : (Instr.buildSlice 22 n vs).run Try.prog w = .ok (.slice (some ⟨w.heap.size, 0, none⟩) n n) (w.alloc (.cells (ints xs).toArray 3))) (hn : xs.length = n) (hm : n ≤ maxLen)
    (h : ∀ W', W'.ownsRow w.heap.size 3 1 (.slice (some ⟨w.heap.size, 0, none⟩) n n) n (ints xs) → Below w.heap.size w W' → K (a.put d (.slice (some ⟨w.heap.size, 0, none⟩) n n)) W') : o.wp Try.prog a w K Q := by
  subst hd
  unfold Oper.wp execOp
  simp only [ho, Sem.run_bind, hl, hrun, Result.andThen_ok]
  exact h _ (own_new w xs n hn hm _ (Nat.le_refl _)) ((Below.refl _ _).alloc (Nat.le_refl _) _)
end
end Go.Proofs.Ytjbhicjnnghjjaa
namespace Go.Proofs.Ytjbhicjnnghjjaa
open Go.RowKit
set_option linter.unusedVariables false

/-- The numbers that bytes consist of. -/
def nus (b : List Nat) : Option (List Int) := if b = [] then some [] else if h : nOK b = true then (nus (b.drop (nS b))).map (nV b :: ·) else none
termination_by b.length
decreasing_by
  have := nS_le h
  rw [List.length_drop]
  omega
theorem nus_nil : nus [] = some [] := by rw [nus, if_pos rfl]
theorem nOK_ne {b : List Nat} (h : nOK b = true) : b ≠ [] := by
  intro e
  subst e
  simp [nOK] at h
theorem nus_go {b : List Nat} (h : nOK b = true) : nus b = (nus (b.drop (nS b))).map (nV b :: ·) := by rw [nus, if_neg (nOK_ne h), dif_pos h]
theorem nus_no {b : List Nat} (h0 : b ≠ []) (h : nOK b = false) : nus b = none := by rw [nus, if_neg h0, dif_neg (by simp [h])]
theorem nus_put (ns : List Int) (h : In64 ns) : nus (numsB ns) = some ns := by
  induction ns with
  | nil => exact nus_nil
  | cons n r ih =>
    have h1 := h n (List.mem_cons_self ..)
    obtain ⟨a, b, c⟩ := num_put n (numsB r) h1.1 h1.2
    have e : numsB (n :: r) = numB n ++ numsB r := by simp [numsB]
    rw [e, nus_go a, b, c, List.drop_append_of_le_length (Nat.le_refl _), List.drop_length, List.nil_append, ih (fun x hx => h x (List.mem_cons_of_mem _ hx))]
    rfl
/-- At most so many. -/
def numsR (b : List Nat) (most : Int) : Option (List Int) := (nus b).bind fun r => if 0 < r.length ∧ most < (r.length : Int) then none else some r
theorem numsR_some {b : List Nat} {most : Int} {done : List Int} (h : nus b = some done) (hm : done = [] ∨ (done.length : Int) ≤ most) : numsR b most = some done := by
  rw [numsR, h, Option.bind_some, if_neg]
  rintro ⟨h1, h2⟩
  rcases hm with rfl | hm
  · simp at h1
  · omega
theorem numsR_none {b : List Nat} {most : Int} (h : nus b = none) : numsR b most = none := by rw [numsR, h, Option.bind_none]
theorem numsR_full {b rest : List Nat} {most : Int} {done : List Int} (h : nus b = (nus rest).map (done ++ ·)) (hok : nOK rest = true) (hm : most ≤ (done.length : Int)) : numsR b most = none := by
  rw [numsR, h, nus_go hok]
  cases nus (rest.drop (nS rest)) with
  | none => rfl
  | some r =>
    simp only [Option.map_some, Option.bind_some]
    rw [if_pos]
    simp
    omega
theorem nus_step {b rest : List Nat} {done : List Int} (h : nus b = (nus rest).map (done ++ ·)) (hok : nOK rest = true) : nus b = (nus (rest.drop (nS rest))).map ((done ++ [nV rest]) ++ ·) := by
  rw [h, nus_go hok]
  cases nus (rest.drop (nS rest)) with
  | none => rfl
  | some r => simp
/-- What Nums answers. -/
structure NP (W : World) (base : Nat) (r : Option (List Int)) (e : Ending) : Prop where
  some : ∀ x, r = some x → ∃ v', e = .returned (.tuple #[v', .nilIface]) ∧ Io W base v' x
  none : r = none → e = .returned (.tuple #[.slice none 0 0, Err 3])
/-- How long a slice is. -/
def slLen : Value → Nat
  | .slice _ n _ => n
  | _ => 0
theorem Sl.slLen {W : World} {v : Value} {l : List Nat} (h : Sl W v l) : slLen v = l.length := by
  obtain ⟨q, cap, rfl, _⟩ := h
  rfl
theorem Io.form {W : World} {base : Nat} {v : Value} {l : List Int} (h : Io W base v l) : ∃ q cap, v = .slice q l.length cap := by
  obtain ⟨q, cap, g, off, e, _⟩ := h.is
  exact ⟨q, cap, e⟩

section
variable {ops : Array Oper} {rest : List Oper} {o : Oper} {a : Act} {w : World} {Q : Exit → Act → World → Prop}
/-- 'b[i:]' of bytes that an earlier world holds. -/
theorem slb_l' (V : World) (hw : Region.wanted o (yielded ops a.tmps) = true) {x y : Operand} (ho : o.op = .slice 30 x (some y) none none) {q : Option Addr} {n cap : Nat} {I : Int} {ki : IntKind} {l : List Nat} (i : Nat)
    (hx : a.eval x = .slice q n cap) (hy : a.eval y = .int ki I) (hI : I = (i : Int)) (h1 : i ≤ n) (hsl : Sl V (.slice q n cap) l)
    (hK : ∀ q', Sl V (.slice q' (n - i) (cap - i)) (l.drop i) → wpList Try.prog ops Q rest (a.put o.dst (.slice q' (n - i) (cap - i))) w) : wpList Try.prog ops Q (o :: rest) a w := by
  have hc := hsl.len
  obtain ⟨q', e⟩ := sliced_form q i n cap
  have hr := slb_l_run (w := w) ho hx hy hI h1 hc.2.1
  rw [e] at hr
  refine valS hw _ hr (hK q' ?_)
  have := hsl.sub h1 (Nat.le_refl _) (Nat.le_refl _) hc.2.1 e.symm
  rwa [List.take_of_length_le (by rw [List.length_drop]; omega)] at this
end
set_option maxHeartbeats 1000000 in
theorem fnums_any (v : Value) (l : List Nat) (most : Int) (w : World) (hv : Sl w v l) (hb : Byt l) (hl : l.length ≤ 100000) :
    Calls Try.prog 37 #[v, .int .i64 most] w fun e w' => NP w' w.heap.size (numsR l most) e ∧ Below w.heap.size w w' := by
  obtain ⟨q, cap, e, -⟩ := id hv
  subst e
  generalize hn : l.length = n at *
  go_enter Try.func37, Try.ntmps37
  go_wp2_with fail
  go_loopw [0, 6] (fun x y wr => ∃ rest done, Sl w x rest ∧ Byt rest ∧ Io wr w.heap.size y done ∧ nus l = (nus rest).map (done ++ ·) ∧ (done = [] ∨ (done.length : Int) ≤ most) ∧ done.length + rest.length ≤ n ∧ Below w.heap.size w wr) (fun x _ _ => slLen x)
  case atStart => exact ⟨l, [], hv, hb, io_of (World.ownsRow_nil w _ _ _), by simp, .inl rfl, by simp [hn], Below.refl _ _⟩
  case round =>
    obtain ⟨rest, done, S, B, O, HN, HM, hlen, hbw⟩ := hrel
    obtain ⟨q2, cap2, e, -⟩ := id S
    subst e
    have Sr := S.keep hbw
    obtain ⟨q3, cap3, e⟩ := O.form
    subst e
    have HN' : Hid (nus l = (nus rest).map (done ++ ·)) := HN
    have HM' : Hid (done = [] ∨ (done.length : Int) ≤ most) := HM
    clear HN HM
    by_cases c : rest = []
    · subst c
      have HR : Hid (numsR l most = some done) := numsR_some (by rw [HN'.out, nus_nil]; simp) HM'.out
      go_wp2_with fail
      go_ret2
      refine ⟨⟨fun x hx => ?_, fun hx => by rw [HR.out] at hx; cases hx⟩, hbw⟩
      rw [HR.out] at hx
      cases hx
      exact ⟨_, rfl, O⟩
    · have hpos : 0 < rest.length := List.length_pos_iff.2 c
      generalize hr : rest.length = m at *
      generalize hd : done.length = k at *
      have hmi : (0 : Int) < (m : Int) := by omega
      cases hok : nOK rest with
      | false =>
        have HR : Hid (numsR l most = none) := numsR_none (by rw [HN'.out, nus_no c hok]; rfl)
        go_wp2_with (go_at_call 58; refine (number_no _ _ _ Sr B hok).mono ?_; rintro e W2 ⟨rfl, rfl⟩)
        go_ret2
        exact ⟨⟨fun x hx => (by rw [HR.out] at hx; cases hx), fun _ => rfl⟩, hbw⟩
      | true =>
        by_cases hmost : most ≤ (k : Int)
        · have HR : Hid (numsR l most = none) := numsR_full HN'.out hok (by rw [hd]; exact hmost)
          go_wp2_with (go_at_call 58; refine (number_ok _ _ _ Sr B hok).mono ?_; rintro e W2 ⟨rfl, rfl⟩)
          go_ret2
          exact ⟨⟨fun x hx => (by rw [HR.out] at hx; cases hx), fun _ => rfl⟩, hbw⟩
        · have HS : Hid (nus l = (nus (rest.drop (nS rest))).map ((done ++ [nV rest]) ++ ·)) := nus_step HN'.out hok
          have hnS := nS_le hok
          have hbd := B.drop (nS rest)
          have HL : Hid ((rest.drop (nS rest)).length = m - nS rest) := by show _ = _; rw [List.length_drop, hr]
          have HD : Hid ((done ++ [nV rest]).length = k + 1) := by show _ = _; rw [List.length_append, hd]; rfl
          have HK : Hid (done.length + 1 ≤ 1000000) := by show _ ≤ _; omega
          have HNO : Hid (∀ W, Sl W (.slice q2 m cap2) rest → Calls Try.prog 58 #[.slice q2 m cap2] W fun e w' => e = .returned (.tuple #[.int .i64 (nV rest), .int .i64 ((nS rest : Nat) : Int), .bool true]) ∧ w' = W) := fun W h => number_ok _ _ W h B hok
          rw [hr] at hnS
          generalize hV : nV rest = x at *
          generalize hSz : nS rest = sz at *
          clear hok
          go_upto_region 6 with (go_at_call 58; refine (HNO.out _ Sr).mono ?_; rintro e W2 ⟨rfl, rfl⟩)
          have O2 : W2.ownsRow w.heap.size 3 1 (.slice q3 k cap3) k (ints done) := by
            have := O
            unfold Io at this
            rwa [hd] at this
          go_wp2_with (first
            | (refine bs_own rfl rfl [x] (by simp only [List.map_toArray, List.map_cons, List.map_nil]; rfl) (isl1 _ _) rfl (by decide) ?_; intro V3 hN3 hb3 z3)
            | (at_builtin; refine app_i _ rfl rfl rfl (own_keep O2 hb3) rfl (own_is hN3) rfl (by show k + 1 ≤ _; omega) (ab_trans hbw hb3) ?_; intro v4 V4 hown4 hnil4 hb4 hgr4 hat4)
            | (refine slb_l' w rfl rfl sz rfl rfl rfl hnS.1 S ?_; intro q5 s5))
          refine ⟨⟨rest.drop sz, done ++ [x], s5, hbd, io_of hown4, HS.out, .inr ?_, ?_, hb4⟩, ?_⟩
          · rw [HD.out]; omega
          · rw [HD.out, HL.out]; omega
          · simp only [slLen]; omega
end Go.Proofs.Ytjbhicjnnghjjaa
namespace Go.Proofs.Ytjbhicjnnghjjaa
open Go.RowKit
set_option linter.unusedVariables false

def cmpI (x y : Int) : Int := if x < y then -1 else if y < x then 1 else 0
theorem cmpI_lt {x y : Int} (h : x < y) : cmpI x y = -1 := by simp [cmpI, h]
theorem cmpI_gt {x y : Int} (h : y < x) : cmpI x y = 1 := by unfold cmpI; rw [if_neg (by omega), if_pos h]
theorem cmpI_eq (x : Int) : cmpI x x = 0 := by simp [cmpI]
def firstNZ : List Int → Int
  | [] => 0
  | x :: r => if x = 0 then firstNZ r else x
theorem firstNZ_at (l : List Int) : ∀ k : Nat, (∀ j, j < k → l[j]? = some 0) → ∀ x, l[k]? = some x → x ≠ 0 → firstNZ l = x := by
  induction l with
  | nil => intro k _ x h; simp at h
  | cons y r ih =>
    intro k hz x hx hn
    cases k with
    | zero => simp at hx; subst hx; simp [firstNZ, hn]
    | succ k =>
      have h0 := hz 0 (by omega)
      simp at h0; subst h0
      simp only [firstNZ, if_pos]
      exact ih k (fun j hj => by have := hz (j + 1) (by omega); simpa using this) x (by simpa using hx) hn
theorem firstNZ_zero (l : List Int) : (∀ j, j < l.length → l[j]? = some 0) → firstNZ l = 0 := by
  induction l with
  | nil => intro _; rfl
  | cons y r ih =>
    intro hz
    have h0 := hz 0 (by simp)
    simp at h0; subst h0
    simp only [firstNZ, if_pos]
    exact ih (fun j hj => by have := hz (j + 1) (by simp; omega); simpa using this)

/-- a is later than b. -/
def ltr (a0 a1 a2 a3 b0 b1 b2 b3 : Int) : Bool := decide (b0 < a0 ∨ (a0 = b0 ∧ (b1 < a1 ∨ (a1 = b1 ∧ (b2 < a2 ∨ (a2 = b2 ∧ b3 < a3))))))
theorem ltr_cmp (a0 a1 a2 a3 b0 b1 b2 b3 : Int) : decide (0 < firstNZ [cmpI a0 b0, cmpI a1 b1, cmpI a2 b2, cmpI a3 b3]) = ltr a0 a1 a2 a3 b0 b1 b2 b3 := by
  unfold ltr
  have key : ∀ (x y : Int) (r : List Int) (p : Prop) [Decidable p], decide (0 < firstNZ r) = decide p → decide (0 < firstNZ (cmpI x y :: r)) = decide (y < x ∨ (x = y ∧ p)) := by
    intro x y r p _ h
    rcases Int.lt_trichotomy x y with c | c | c
    · rw [cmpI_lt c]; simp [firstNZ]; omega
    · subst c; rw [cmpI_eq]; simp [firstNZ]; simpa using h
    · rw [cmpI_gt c]; simp [firstNZ, c]
  refine key _ _ _ _ (key _ _ _ _ (key _ _ _ _ ?_))
  rcases Int.lt_trichotomy a3 b3 with c | c | c
  · rw [cmpI_lt c]; simp [firstNZ]; omega
  · subst c; rw [cmpI_eq]; simp [firstNZ]
  · rw [cmpI_gt c]; simp [firstNZ, c]

theorem or_cells {w : World} {b : Nat} {x0 x1 x2 x3 : Int} (h0 : w.cell? ⟨b, 0, none⟩ = some (.int .i64 x0)) (h1 : w.cell? ⟨b, 1, none⟩ = some (.int .i64 x1)) (h2 : w.cell? ⟨b, 2, none⟩ = some (.int .i64 x2)) (h3 : w.cell? ⟨b, 3, none⟩ = some (.int .i64 x3)) :
    ∀ j x, [x0, x1, x2, x3][j]? = some x → w.cell? ⟨b, j, none⟩ = some (.int .i64 x)
  | 0, x, h => by simp at h; subst h; exact h0
  | 1, x, h => by simp at h; subst h; exact h1
  | 2, x, h => by simp at h; subst h; exact h2
  | 3, x, h => by simp at h; subst h; exact h3
  | n + 4, x, h => by simp at h

end Go.Proofs.Ytjbhicjnnghjjaa
