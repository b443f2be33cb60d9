/-
  Registers, rounds and letters in memory.
  How a net turns: a round, a register, its letters.
  A letter more.
-/
import Derived.Test.YtodmhohccclhmaaPk14
import Derived.Test.YtodmhohccclhmaaPk23
namespace Go.Proofs.Ytodmhohccclhmaa
open Go.RowKit
set_option linter.unusedVariables false
set_option maxRecDepth 100000

/-- Numbers that stay: the call's own, or what came in. -/
def Im (W0 W : World) (B : Nat) (v : Value) (l : List Int) : Prop := Io W B v l ∨ Is W0 v l
theorem Im.is {W0 W : World} {B : Nat} {v : Value} {l : List Int} (h : Im W0 W B v l) (h0 : Below W0.heap.size W0 W) : Is W v l := by
  rcases h with h | h
  · exact h.is
  · exact h.keep h0
theorem Im.frm {X : Nat → Prop} {W0 W W' : World} {B : Nat} {v : Value} {l : List Int} (h : Im W0 W B v l) (hf : Frm X W W') (hx : NoI X W) : Im W0 W' B v l := by
  rcases h with h | h
  · exact .inl (h.frm hf hx)
  · exact .inr h
theorem Im.nil (W0 W : World) (B : Nat) : Im W0 W B (.slice none 0 0) [] := .inr (Is.nil _)
theorem Im.form {W0 W : World} {B : Nat} {v : Value} {l : List Int} (h : Im W0 W B v l) : ∃ q c, v = .slice q l.length c := by
  rcases h with h | h
  · exact h.is.form
  · exact h.form
section
variable {α : Type} {enc : α → List Value} {k : Nat}
theorem fl_len (he : ∀ x, (enc x).length = k) (xs : List α) : (xs.flatMap enc).length = xs.length * k := by
  induction xs with
  | nil => simp
  | cons x r ih => rw [List.flatMap_cons, List.length_append, he, ih, List.length_cons, Nat.add_mul]; omega
theorem fl_at (he : ∀ x, (enc x).length = k) : ∀ {xs : List α} {j i : Nat} {x : α}, xs[j]? = some x → i < k → (xs.flatMap enc)[j * k + i]? = (enc x)[i]? := by
  intro xs
  induction xs with
  | nil => intro j i x h; simp at h
  | cons y r ih =>
    intro j i x h hi
    rw [List.flatMap_cons]
    cases j with
    | zero =>
      simp at h
      subst h
      rw [Nat.zero_mul, Nat.zero_add, List.getElem?_append_left (by rw [he]; exact hi)]
    | succ j =>
      have h2 : r[j]? = some x := by simpa using h
      rw [List.getElem?_append_right (by rw [he, Nat.add_mul]; omega), he, show (j + 1) * k + i - k = j * k + i by rw [Nat.add_mul]; omega]
      exact ih h2 hi
theorem fl_take (he : ∀ x, (enc x).length = k) : ∀ (xs : List α) (j : Nat), (xs.flatMap enc).take (j * k) = (xs.take j).flatMap enc
  | [], j => by simp
  | y :: r, 0 => by simp
  | y :: r, j + 1 => by
    rw [List.take_succ_cons, List.flatMap_cons, List.flatMap_cons, List.take_append, he, List.take_of_length_le (by rw [he, Nat.add_mul]; omega), show (j + 1) * k - k = j * k by rw [Nat.add_mul]; omega, fl_take he r j]
theorem fl_drop (he : ∀ x, (enc x).length = k) : ∀ (xs : List α) (j : Nat), (xs.flatMap enc).drop (j * k) = (xs.drop j).flatMap enc
  | [], j => by simp
  | y :: r, 0 => by simp
  | y :: r, j + 1 => by
    rw [List.drop_succ_cons, List.flatMap_cons, List.drop_append, he, List.drop_of_length_le (by rw [he, Nat.add_mul]; omega), show (j + 1) * k - k = j * k by rw [Nat.add_mul]; omega, fl_drop he r j]
    rfl
end
/-- A letter, with its slices. -/
structure LD where
  kd : Nat
  r : Nat
  k : Nat
  b : Bt
  g : Bt
  p : Bt
  a : Bt
  rv : Value
  l : List Int
  vv : Value
  m : List Int
abbrev lC (x : LD) : Array Value := #[.int .i64 (x.kd : Int), .int .i64 (x.r : Int), .int .i64 (x.k : Int), .int .i64 x.b.n, .int .i64 x.b.nd, .int .i64 x.b.lf, .int .i64 x.g.n, .int .i64 x.g.nd, .int .i64 x.g.lf, .int .i64 x.p.n, .int .i64 x.p.nd, .int .i64 x.p.lf, .int .i64 x.a.n, .int .i64 x.a.nd, .int .i64 x.a.lf, x.rv, x.vv]
def encL (x : LD) : List Value := (lC x).toList
theorem encL_len (x : LD) : (encL x).length = 17 := rfl
def ltOf (x : LD) : Lt := ⟨x.kd, x.r, x.k, x.b, x.g, x.p, x.a, x.l, x.m⟩
def encG (c : CgD) : List Value := (cgC c.k c.vo c.vn).toList
theorem encG_len (c : CgD) : (encG c).length = 3 := rfl
def cgOf (c : CgD) : Cg := ⟨c.k, c.o, c.n⟩
def rgOf (r : RrD) : Rg := ⟨r.p, r.a, r.l⟩
abbrev laC (x y z : Bt) : List Value := (bC x).toList ++ (bC y).toList ++ (bC z).toList
def nwC (n gr : Nat) (rv cv : Value) (x y z : Bt) (lv : Value) : Array Value := #[.slice (some ⟨gr, 0, none⟩) n n, rv, cv, .int .i64 x.n, .int .i64 x.nd, .int .i64 x.lf, .int .i64 y.n, .int .i64 y.nd, .int .i64 y.lf, .int .i64 z.n, .int .i64 z.nd, .int .i64 z.lf, lv]
/-- The pieces of a net. -/
structure NwP where
  gr : Nat
  rv : Value
  cv : Value
  lv : Value
  bs : List (Nat × Nat × Nat)
  os : List RrD
  cds : List CgD
  lds : List LD
def b3 (t : Nat × Nat × Nat) (k : Nat) : Prop := bks t.1 t.2.1 t.2.2 k
structure Nw (W0 W : World) (B wb : Nat) (P : NwP) (S : Net) : Prop where
  gew : B ≤ wb
  ger : B ≤ P.gr
  blk : ∃ x y z, S.la = [x, y, z] ∧ Blk W wb (nwC S.n P.gr P.rv P.cv x y z P.lv) 43
  reg : Blk W P.gr (flR P.os).toArray 61
  rgs : P.os.map rgOf = S.rg
  rgl : S.rg.length = S.n
  rgi : ∀ r ∈ P.os, Im W0 W B r.v r.l
  rds : W.ownsRow B 44 1 P.rv S.rd.length (P.bs.map fun t => rptr t.1)
  bsl : P.bs.length = S.rd.length
  rnd : ∀ (i : Nat) (t : Nat × Nat × Nat) (R : Rd), P.bs[i]? = some t → S.rd[i]? = some R → Rn (fun _ => False) W B t.1 t.2.1 t.2.2 R
  dis : ∀ (i j : Nat) (t u : Nat × Nat × Nat), i ≠ j → P.bs[i]? = some t → P.bs[j]? = some u → ∀ k, b3 t k → ¬ b3 u k
  chs : W.ownsRow B 26 3 P.cv S.rd.length (P.cds.flatMap encG)
  chr : P.cds.map cgOf = S.rd.map (fun R => R.c)
  chi : ∀ c ∈ P.cds, Im W0 W B c.vo c.o ∧ Im W0 W B c.vn c.n
  lts : W.ownsRow B 76 17 P.lv S.lt.length (P.lds.flatMap encL)
  ltm : P.lds.map ltOf = S.lt
  lti : ∀ l ∈ P.lds, Im W0 W B l.rv l.l ∧ Im W0 W B l.vv l.m
  old : Below W0.heap.size W0 W
  le : W0.heap.size ≤ B
  lB : B ≤ W.heap.size
/-- Blocks that are none of a net's. -/
structure Off (W : World) (wb : Nat) (P : NwP) (X : Nat → Prop) : Prop where
  w : ¬ X wb
  r : ¬ X P.gr
  d : ∀ k, P.rv.ownBlock = some k → ¬ X k
  c : ∀ k, P.cv.ownBlock = some k → ¬ X k
  l : ∀ k, P.lv.ownBlock = some k → ¬ X k
  b : ∀ (i : Nat) (t : Nat × Nat × Nat), P.bs[i]? = some t → ∀ k, b3 t k → ¬ X k
  n : NoI X W
theorem own_frm {X : Nat → Prop} {W W' : World} {B n e s : Nat} {v : Value} {xs : List Value} (h : W.ownsRow B e s v n xs) (hf : Frm X W W') (hx : ∀ k, v.ownBlock = some k → ¬ X k) : W'.ownsRow B e s v n xs :=
  own_at h fun g hg => hf.other g (h.lt g hg).2 (hx g hg)
theorem Nw.frm {X : Nat → Prop} {W0 W W' : World} {B wb : Nat} {P : NwP} {S : Net} (h : Nw W0 W B wb P S) (hf : Frm X W W') (ho : Off W wb P X) (hX : ∀ k, X k → B ≤ k) : Nw W0 W' B wb P S := by
  obtain ⟨x, y, z, e, hB⟩ := h.blk
  refine ⟨h.gew, h.ger, ⟨x, y, z, e, hB.frm hf ho.w⟩, h.reg.frm hf ho.r, h.rgs, h.rgl, fun r hr => (h.rgi r hr).frm hf ho.n, own_frm h.rds hf ho.d, h.bsl, fun i t R hi hR => ?_, h.dis, own_frm h.chs hf ho.c, h.chr, fun c hc => ⟨(h.chi c hc).1.frm hf ho.n, (h.chi c hc).2.frm hf ho.n⟩, own_frm h.lts hf ho.l, h.ltm, fun l hl => ⟨(h.lti l hl).1.frm hf ho.n, (h.lti l hl).2.frm hf ho.n⟩, ?_, h.le, Nat.le_trans h.lB hf.size⟩
  · have hb := ho.b i t hi
    exact (h.rnd i t R hi hR).frm hf ho.n.g (hb _ (.inl rfl)) (hb _ (.inr (.inl rfl))) (hb _ (.inr (.inr rfl)))
  · exact h.old.trans (hf.below h.old.size (fun k hk => Nat.le_trans h.le (hX k hk)))
theorem Nw.keep {W0 W W' : World} {B wb : Nat} {P : NwP} {S : Net} (h : Nw W0 W B wb P S) (hb : Below W.heap.size W W') : Nw W0 W' B wb P S :=
  h.frm (X := fun _ => False) (frm_below hb) ⟨fun e => e, fun e => e, fun _ _ e => e, fun _ _ e => e, fun _ _ e => e, fun _ _ _ _ _ e => e, noI_false W⟩ (fun k e => e.elim)
theorem Nw.size {W0 W : World} {B wb : Nat} {P : NwP} {S : Net} (h : Nw W0 W B wb P S) : P.os.length = S.n ∧ P.cds.length = S.rd.length ∧ P.lds.length = S.lt.length := by
  refine ⟨by rw [← h.rgl, ← h.rgs, List.length_map], ?_, by rw [← h.ltm, List.length_map]⟩
  have := congrArg List.length h.chr
  simpa using this
/-- The kinds of a net's blocks are all unlike, so its rows lie apart. -/
theorem Nw.kinds {W0 W : World} {B wb : Nat} {P : NwP} {S : Net} (h : Nw W0 W B wb P S) : kindR W wb 43 ∧ kindR W P.gr 61 ∧ (∀ k, P.rv.ownBlock = some k → kindR W k 44) ∧ (∀ k, P.cv.ownBlock = some k → kindR W k 26) ∧ (∀ k, P.lv.ownBlock = some k → kindR W k 76) := by
  obtain ⟨x, y, z, e, hB⟩ := h.blk
  exact ⟨hB.kindR, h.reg.kindR, fun k hk => own_kindR h.rds hk, fun k hk => own_kindR h.chs hk, fun k hk => own_kindR h.lts hk⟩
/-- A round's blocks: a struct of its kind and two maps. -/
theorem Rn.kinds {G : Nat → Prop} {W : World} {B b mp ma : Nat} {R : Rd} (h : Rn G W B b mp ma R) {k : Nat} (hk : bks b mp ma k) {t : TypeId} (ht : kindR W k t) : t = 81 := by
  rcases hk with e | e | e <;> subst e
  · exact ht.uniq h.kind
  · exact (h.pm.noKind t ht).elim
  · exact (h.am.noKind t ht).elim
end Go.Proofs.Ytodmhohccclhmaa
namespace Go.Proofs.Ytodmhohccclhmaa
open Go.RowKit
set_option linter.unusedVariables false
set_option maxRecDepth 100000

theorem map_set_same {α β : Type} (f : α → β) : ∀ (l : List α) (i : Nat) (x y : α), l[i]? = some x → f y = f x → (l.set i y).map f = l.map f
  | [], i, x, y, h, e => by simp at h
  | a :: r, 0, x, y, h, e => by simp at h; subst h; simp [e]
  | a :: r, i + 1, x, y, h, e => by simp only [List.set_cons_succ, List.map_cons]; rw [map_set_same f r i x y (by simpa using h) e]
/-- The blocks of a round are off all else. -/
theorem Nw.off {W0 W : World} {B wb : Nat} {P : NwP} {S : Net} (h : Nw W0 W B wb P S) {i : Nat} {t : Nat × Nat × Nat} {R : Rd} (hi : P.bs[i]? = some t) (hR : S.rd[i]? = some R) :
    ¬ b3 t wb ∧ ¬ b3 t P.gr ∧ (∀ k, P.rv.ownBlock = some k → ¬ b3 t k) ∧ (∀ k, P.cv.ownBlock = some k → ¬ b3 t k) ∧ (∀ k, P.lv.ownBlock = some k → ¬ b3 t k) ∧ NoI (b3 t) W := by
  have hr := h.rnd i t R hi hR
  obtain ⟨k1, k2, k3, k4, k5⟩ := h.kinds
  refine ⟨fun e => ?_, fun e => ?_, fun k hk e => ?_, fun k hk e => ?_, fun k hk e => ?_, hr.noI⟩
  · have := hr.kinds e k1; cases this
  · have := hr.kinds e k2; cases this
  · have := hr.kinds e (k3 k hk); cases this
  · have := hr.kinds e (k4 k hk); cases this
  · have := hr.kinds e (k5 k hk); cases this
/-- A round turns. -/
theorem Nw.turnR {W0 W W' : World} {B wb : Nat} {P : NwP} {S : Net} (h : Nw W0 W B wb P S) {i : Nat} {t : Nat × Nat × Nat} {R R' : Rd} (hi : P.bs[i]? = some t) (hR : S.rd[i]? = some R) (hf : Frm (b3 t) W W') (hn : Rn (fun _ => False) W' B t.1 t.2.1 t.2.2 R') (hc : R'.c = R.c) : Nw W0 W' B wb P { S with rd := S.rd.set i R' } := by
  obtain ⟨o1, o2, o3, o4, o5, o6⟩ := h.off hi hR
  have hr := h.rnd i t R hi hR
  have hil : i < S.rd.length := (List.getElem?_eq_some_iff.1 hR).1
  obtain ⟨x, y, z, e, hB⟩ := h.blk
  have hl : ({ S with rd := S.rd.set i R' } : Net).rd.length = S.rd.length := List.length_set
  refine ⟨h.gew, h.ger, ⟨x, y, z, e, hB.frm hf o1⟩, h.reg.frm hf o2, h.rgs, h.rgl, fun r hr => (h.rgi r hr).frm hf o6, ?_, ?_, fun j u Q hj hQ => ?_, h.dis, ?_, ?_, fun c hc => ⟨(h.chi c hc).1.frm hf o6, (h.chi c hc).2.frm hf o6⟩, own_frm h.lts hf o5, h.ltm, fun l hl => ⟨(h.lti l hl).1.frm hf o6, (h.lti l hl).2.frm hf o6⟩, ?_, h.le, Nat.le_trans h.lB hf.size⟩
  · rw [hl]; exact own_frm h.rds hf o3
  · rw [hl]; exact h.bsl
  · by_cases ej : j = i
    · subst ej
      rw [hi] at hj
      cases hj
      have hQ2 : (S.rd.set j R')[j]? = some Q := hQ
      rw [List.getElem?_set_self hil] at hQ2
      cases hQ2
      exact hn
    · have hQ2 : (S.rd.set i R')[j]? = some Q := hQ
      rw [List.getElem?_set_ne (fun e' => ej e'.symm)] at hQ2
      have hd := h.dis j i u t ej hj hi
      exact (h.rnd j u Q hj hQ2).frm hf o6.g (fun e' => hd _ (.inl rfl) e') (fun e' => hd _ (.inr (.inl rfl)) e') (fun e' => hd _ (.inr (.inr rfl)) e')
  · rw [hl]; exact own_frm h.chs hf o4
  · show P.cds.map cgOf = (S.rd.set i R').map (fun R => R.c)
    rw [map_set_same _ _ i R R' hR hc]
    exact h.chr
  · refine h.old.trans (hf.below h.old.size (fun k hk => Nat.le_trans h.le ?_))
    rcases hk with e | e | e <;> subst e
    · exact hr.geb
    · exact hr.gep
    · exact hr.gea
/-- A register turns. -/
theorem Nw.turnG {W0 W W' : World} {B wb : Nat} {P : NwP} {S : Net} (h : Nw W0 W B wb P S) {k : Nat} {r : RrD} (hk : k < S.n) (hc : Chg P.gr W W') (hB : Blk W' P.gr (flR (P.os.set k r)).toArray 61) (hi : Im W0 W B r.v r.l) : Nw W0 W' B wb { P with os := P.os.set k r } { S with rg := S.rg.set k (rgOf r) } := by
  obtain ⟨k1, k2, k3, k4, k5⟩ := h.kinds
  have hf : Frm (fun j => j = P.gr) W W' := frm_chg hc rfl
  have hN : NoI (fun j => j = P.gr) W := fun j hj hk => by subst hj; have := hk.uniq k2; cases this
  obtain ⟨x, y, z, e, hBw⟩ := h.blk
  have n1 : wb ≠ P.gr := fun e => by have := (e ▸ k1).uniq k2; cases this
  refine ⟨h.gew, h.ger, ⟨x, y, z, e, hBw.frm hf n1⟩, hB, ?_, by show (S.rg.set k (rgOf r)).length = S.n; rw [List.length_set]; exact h.rgl, fun q hq => ?_, own_frm h.rds hf (fun j hj e => by subst e; have := (k3 _ hj).uniq k2; cases this), h.bsl, fun i t R hi hR => ?_, h.dis, own_frm h.chs hf (fun j hj e => by subst e; have := (k4 _ hj).uniq k2; cases this), h.chr, fun c hc => ⟨(h.chi c hc).1.frm hf hN, (h.chi c hc).2.frm hf hN⟩, own_frm h.lts hf (fun j hj e => by subst e; have := (k5 _ hj).uniq k2; cases this), h.ltm, fun l hl => ⟨(h.lti l hl).1.frm hf hN, (h.lti l hl).2.frm hf hN⟩, h.old.trans (hc.below (Nat.le_trans h.le h.ger)), h.le, by rw [hc.size]; exact h.lB⟩
  · show (P.os.set k r).map rgOf = S.rg.set k (rgOf r)
    rw [List.map_set, h.rgs]
  · rcases List.mem_or_eq_of_mem_set hq with e | e
    · exact (h.rgi q e).frm hf hN
    · subst e; exact hi.frm hf hN
  · obtain ⟨-, o2, -⟩ := h.off hi hR
    exact (h.rnd i t R hi hR).frm hf hN.g (fun e => o2 (.inl e.symm)) (fun e => o2 (.inr (.inl e.symm))) (fun e => o2 (.inr (.inr e.symm)))
/-- The letters are others. -/
theorem Nw.turnL {W0 W W1 : World} {B wb : Nat} {P : NwP} {S : Net} (h : Nw W0 W B wb P S) {v : Value} {lds : List LD} (hg : Frm (fun k => P.lv.ownBlock = some k) W W1) (hv : W1.ownsRow B 76 17 v lds.length (lds.flatMap encL)) (hi : ∀ l ∈ lds, Im W0 W1 B l.rv l.l ∧ Im W0 W1 B l.vv l.m) :
    Nw W0 (W1.setCell ⟨wb, 12, none⟩ v) B wb { P with lv := v, lds := lds } { S with lt := lds.map ltOf } ∧ Frm (fun k => P.lv.ownBlock = some k ∨ k = wb) W (W1.setCell ⟨wb, 12, none⟩ v) := by
  obtain ⟨k1, k2, k3, k4, k5⟩ := h.kinds
  obtain ⟨x, y, z, e, hBw⟩ := h.blk
  have hB1 : Blk W1 wb (nwC S.n P.gr P.rv P.cv x y z P.lv) 43 := hBw.frm hg (fun e => by have := (k5 _ e).uniq k1; cases this)
  have hc := chg_set W1 wb 12 v
  have hf : Frm (fun k => P.lv.ownBlock = some k ∨ k = wb) W (W1.setCell ⟨wb, 12, none⟩ v) := (hg.mono fun k hk => .inl hk).trans (frm_chg hc (.inr rfl))
  have hN : NoI (fun k => P.lv.ownBlock = some k ∨ k = wb) W := by
    rintro k (hk | hk) hi
    · have := hi.uniq (k5 k hk); cases this
    · subst hk; have := hi.uniq k1; cases this
  have hN1 : NoI (fun k => k = wb) W1 := fun k hk hi => by subst hk; have := hi.uniq hB1.kindR; cases this
  have hf1 : Frm (fun k => k = wb) W1 (W1.setCell ⟨wb, 12, none⟩ v) := frm_chg hc rfl
  have lo : ∀ k, (P.lv.ownBlock = some k ∨ k = wb) → B ≤ k := by
    rintro k (hk | hk)
    · exact (h.lts.lt k hk).1
    · subst hk; exact h.gew
  refine ⟨⟨h.gew, h.ger, ⟨x, y, z, e, hB1.set 12 v⟩, h.reg.frm hf ?_, h.rgs, h.rgl, fun r hr => (h.rgi r hr).frm hf hN, own_frm h.rds hf ?_, h.bsl, fun i t R hi hR => ?_, h.dis, own_frm h.chs hf ?_, h.chr, fun c hc => ⟨(h.chi c hc).1.frm hf hN, (h.chi c hc).2.frm hf hN⟩, ?_, rfl, fun l hl => ⟨(hi l hl).1.frm hf1 hN1, (hi l hl).2.frm hf1 hN1⟩, ?_, h.le, Nat.le_trans h.lB hf.size⟩, hf⟩
  · rintro (e | e)
    · have := (k5 _ e).uniq k2; cases this
    · have := (e ▸ k2).uniq k1; cases this
  · rintro k hk (e | e)
    · have := (k5 _ e).uniq (k3 _ hk); cases this
    · subst e; have := k1.uniq (k3 _ hk); cases this
  · obtain ⟨o1, -, -, -, o5, -⟩ := h.off hi hR
    refine (h.rnd i t R hi hR).frm hf hN.g (fun e => ?_) (fun e => ?_) (fun e => ?_) <;> rcases e with e | e
    · exact o5 _ e (.inl rfl)
    · exact o1 (.inl e.symm)
    · exact o5 _ e (.inr (.inl rfl))
    · exact o1 (.inr (.inl e.symm))
    · exact o5 _ e (.inr (.inr rfl))
    · exact o1 (.inr (.inr e.symm))
  · rintro k hk (e | e)
    · have := (k5 _ e).uniq (k4 _ hk); cases this
    · subst e; have := k1.uniq (k4 _ hk); cases this
  · show (W1.setCell ⟨wb, 12, none⟩ v).ownsRow B 76 17 v (lds.map ltOf).length (lds.flatMap encL)
    rw [List.length_map]
    exact own_frm hv hf1 (fun k hk e => by subst e; have := (own_kindR hv hk).uniq hB1.kindR; cases this)
  · exact h.old.trans (hf.below h.old.size (fun k hk => Nat.le_trans h.le (lo k hk)))
abbrev nptr (b : Nat) : Value := .pointer (some ⟨b, 0, none⟩)
theorem infoLt : (Try.prog.info? 76).map (fun i => (i.zero, i.size, i.bytes)) = some (some (.agg (lC ⟨0, 0, 0, zB, zB, zB, zB, .slice none 0 0, [], .slice none 0 0, []⟩)), 17, 168) := by kernel_rfl
theorem encL_one {x : LD} {q q' : Option Addr} {n n' c c' : Nat} (h1 : x.rv = .slice q n c) (h2 : x.vv = .slice q' n' c') : ∀ u ∈ encL x, u.oneCell' = true := by
  intro u hu
  obtain ⟨kd, r, k, b, g, p, a, rv, l, vv, m⟩ := x
  dsimp only at h1 h2
  subst h1
  subst h2
  simp [encL] at hu
  rcases hu with rfl | rfl | rfl | rfl | rfl | rfl | rfl | rfl | rfl | rfl | rfl | rfl | rfl | rfl | rfl | rfl | rfl <;> rfl
end Go.Proofs.Ytodmhohccclhmaa
namespace Go.Proofs.Ytodmhohccclhmaa
open Go.RowKit
set_option linter.unusedVariables false
set_option maxRecDepth 100000

abbrev lV (kd r k : Int) (b g p a : Bt) (rv vv : Value) : Array Value := #[.int .i64 kd, .int .i64 r, .int .i64 k, .int .i64 b.n, .int .i64 b.nd, .int .i64 b.lf, .int .i64 g.n, .int .i64 g.nd, .int .i64 g.lf, .int .i64 p.n, .int .i64 p.nd, .int .i64 p.lf, .int .i64 a.n, .int .i64 a.nd, .int .i64 a.lf, rv, vv]
theorem bsLt1 (kd r k : Int) (b g p a : Bt) (q q' : Option Addr) (n n' c c' : Nat) (w : World) : (Instr.buildSlice 41 1 #[(0, .agg (lV kd r k b g p a (.slice q n c) (.slice q' n' c')))]).run Try.prog w = .ok (.slice (some ⟨w.heap.size, 0, none⟩) 1 1) (w.alloc (.cells (lV kd r k b g p a (.slice q n c) (.slice q' n' c')) 76)) := by kernel_rfl
section
variable {o : Oper} {a : Act} {w : World} {K : Act → World → Prop} {Q : Exit → Act → World → Prop}
theorem bsLtW (d : Option Tmp) (hd : o.dst = d) {parts : Array (Nat × Operand)} (ho : o.op = .buildSlice 41 1 parts) (kd r k : Int) (b g p ba : Bt) (q q' : Option Addr) (n n' c c' : Nat) (hl : parts.map (fun (i, x) => (i, a.eval x)) = #[(0, .agg (lV kd r k b g p ba (.slice q n c) (.slice q' n' c')))])
    (h : ∀ W', Blk W' w.heap.size (lV kd r k b g p ba (.slice q n c) (.slice q' n' c')) 76 → Below w.heap.size w W' → K (a.put d (.slice (some ⟨w.heap.size, 0, none⟩) 1 1)) W') : o.wp Try.prog a w K Q := by
  subst hd
  unfold Oper.wp execOp
  simp only [ho, Sem.run_bind, hl, bsLt1, Result.andThen_ok]
  exact h _ (Blk.new _ _ _) ((Below.refl _ _).alloc (Nat.le_refl _) _)
theorem appLtW (d : Option Tmp) (hd : o.dst = d) {s x : Operand} (ho : o.op = .call { callee := .builtin .append, args := #[s, x], argTypes := #[41, 41] })
    {v : Value} {N B m c : Nat} {ad : Addr} {lds : List LD} (ls : List LD) (hs : a.eval s = v) (hown : w.ownsRow B 76 17 v N (lds.flatMap encL)) (hx : a.eval x = .slice (some ad) m c) (hsrc : ∀ j u, (ls.flatMap encL)[j]? = some u → w.cell? (ad.add j) = some u) (hone : ∀ l ∈ ls, (∃ q n c, l.rv = .slice q n c) ∧ ∃ q n c, l.vv = .slice q n c) (hm : ls.length = m) (hk : N + m ≤ 8000) (hB : B ≤ w.heap.size)
    (h : ∀ v' w', w'.ownsRow B 76 17 v' (N + m) ((lds ++ ls).flatMap encL) → w.grownBy w' v.ownBlock → (v'.ownBlock = v.ownBlock ∨ v'.ownBlock = some w.heap.size) → K (a.put d v') w') : o.wp Try.prog a w K Q := by
  subst hd
  obtain ⟨i, hi, hz0, hz1, hz2⟩ := info_parts infoLt
  have h1 : ∀ u ∈ ls.flatMap encL, u.oneCell' = true := by
    intro u hu
    obtain ⟨l, hl, hu2⟩ := List.mem_flatMap.1 hu
    obtain ⟨⟨q1, n1, c1, e1⟩, q2, n2, c2, e2⟩ := hone l hl
    exact encL_one e1 e2 u hu2
  obtain ⟨v', w', hr, h2, h3, h4, h5⟩ := run_append_own_at (P := Try.prog) w B 41 o.type 76 i _ 17 168 Try.underlying41 hi hz0 hz1 hz2 rfl (by omega) v N (lds.flatMap encL) hown ad m c (ls.flatMap encL) (by rw [fl_len encL_len, hm]) hsrc h1 (by unfold maxLen; omega) (by omega) hB
  unfold Oper.wp execOp
  simp only [ho, resolve, invoke, builtin, Sem.run_bind, Sem.run_pure, Result.andThen_ok, List.map_toArray, List.map_cons, List.map_nil, hs, hx, hr]
  exact h v' w' (by rw [List.flatMap_append]; exact h2) h3 h5
/-- .. of one letter, just made. -/
theorem appLt1 (d : Option Tmp) (hd : o.dst = d) {s x : Operand} (ho : o.op = .call { callee := .builtin .append, args := #[s, x], argTypes := #[41, 41] })
    {v : Value} {N B g : Nat} {lds : List LD} (l : LD) (hs : a.eval s = v) (hown : w.ownsRow B 76 17 v N (lds.flatMap encL)) (hx : a.eval x = .slice (some ⟨g, 0, none⟩) 1 1) (hB : Blk w g (lC l) 76) (hr : ∃ q n c, l.rv = .slice q n c) (hv : ∃ q n c, l.vv = .slice q n c) (hk : N ≤ 4000) (hBw : B ≤ w.heap.size)
    (h : ∀ v' w', w'.ownsRow B 76 17 v' (N + 1) ((lds ++ [l]).flatMap encL) → w.grownBy w' v.ownBlock → (v'.ownBlock = v.ownBlock ∨ v'.ownBlock = some w.heap.size) → K (a.put d v') w') : o.wp Try.prog a w K Q := by
  refine appLtW d hd ho [l] hs hown hx (fun j u hu => ?_) (fun x hx => by have : x = l := by simpa using hx
                                                                          subst this; exact ⟨hr, hv⟩) rfl (by omega) hBw h
  have := hB.at (i := j) (by rw [List.flatMap_cons, List.flatMap_nil, List.append_nil] at hu; unfold encL at hu; simpa using hu)
  rw [add_plain _ rfl]
  simpa using this
end
/-- One letter more, once it is appended and stored. -/
theorem Nw.more {W0 W W1 : World} {B wb : Nat} {P : NwP} {S : Net} (h : Nw W0 W B wb P S) {v : Value} {l : LD} (hg : W.grownBy W1 P.lv.ownBlock) (hv : W1.ownsRow B 76 17 v (S.lt.length + 1) ((P.lds ++ [l]).flatMap encL)) (hi : Im W0 W B l.rv l.l ∧ Im W0 W B l.vv l.m) :
    Nw W0 (W1.setCell ⟨wb, 12, none⟩ v) B wb { P with lv := v, lds := P.lds ++ [l] } { S with lt := S.lt ++ [ltOf l] } ∧ Frm (fun k => P.lv.ownBlock = some k ∨ k = wb) W (W1.setCell ⟨wb, 12, none⟩ v) := by
  obtain ⟨k1, k2, k3, k4, k5⟩ := h.kinds
  have hf : Frm (fun k => P.lv.ownBlock = some k) W W1 := ⟨hg.os, hg.tape, hg.output, hg.size, fun i hi hx => hg.block i hi (fun e => hx e.symm)⟩
  have hN : NoI (fun k => P.lv.ownBlock = some k) W := fun k hk hi => by have := hi.uniq (k5 k hk); cases this
  have hlen : (P.lds ++ [l]).length = S.lt.length + 1 := by rw [List.length_append, h.size.2.2]; rfl
  have := h.turnL (v := v) (lds := P.lds ++ [l]) hf (by rw [hlen]; exact hv) (fun x hx => by
    rcases List.mem_append.1 hx with e | e
    · exact ⟨(h.lti x e).1.frm hf hN, (h.lti x e).2.frm hf hN⟩
    · have : x = l := by simpa using e
      subst this
      exact ⟨hi.1.frm hf hN, hi.2.frm hf hN⟩)
  have e : (P.lds ++ [l]).map ltOf = S.lt ++ [ltOf l] := by rw [List.map_append, h.ltm]; rfl
  rw [e] at this
  exact this
theorem Nw.letters {W0 W : World} {B wb : Nat} {P : NwP} {S : Net} (h : Nw W0 W B wb P S) : ∃ q c, P.lv = .slice q S.lt.length c := by
  rcases h.lts.2 with ⟨h1, h2⟩ | ⟨g, cap, cur, h1, _⟩
  · rw [h2]; exact ⟨none, 0, h1⟩
  · exact ⟨_, _, h1⟩
/-- What a delivery leaves. -/
def Dlv (W0 W W' : World) (B wb : Nat) (S : Net) (m : Nat) : Prop := ∃ P' S' acc', Nw W0 W' B wb P' S' ∧ Inv acc' S' ∧ S'.n = S.n ∧ S'.rd.map (fun R => R.c) = S.rd.map (fun R => R.c) ∧ S'.lt.length ≤ S.lt.length + m ∧ Below B W W'
end Go.Proofs.Ytodmhohccclhmaa
