/-
  Rows of registers of the call's own, each with a marked copy of its value.
  A round in memory: its struct, its two maps, the numbers that it holds.
  round's small functions.
-/
import Derived.Test.YtodmhohccclhmaaPk13
import Derived.Test.YtodmhohccclhmaaPk10
import Derived.Maps.OwnSet
import Derived.Maps.OwnOps
namespace Go.Proofs.Ytodmhohccclhmaa
open Go.RowKit
set_option linter.unusedVariables false

def flR (os : List RrD) : List Value := os.flatMap fun r => (rC r.p r.a r.v).toList
theorem flR_nil : flR [] = [] := rfl
theorem flR_cons (r : RrD) (os : List RrD) : flR (r :: os) = (rC r.p r.a r.v).toList ++ flR os := rfl
theorem flR_one1 (r : RrD) : flR [r] = (rC r.p r.a r.v).toList := by simp [flR]
theorem flR_append (os ps : List RrD) : flR (os ++ ps) = flR os ++ flR ps := by simp [flR]
theorem flR_len (os : List RrD) : (flR os).length = os.length * 7 := by
  induction os with
  | nil => rfl
  | cons r os ih => rw [flR_cons, List.length_append, ih, List.length_cons]; simp; omega
theorem flR_at {os : List RrD} {j i : Nat} {r : RrD} (h : os[j]? = some r) (hi : i < 7) : (flR os)[j * 7 + i]? = (rC r.p r.a r.v).toList[i]? := by
  induction os generalizing j with
  | nil => simp at h
  | cons x os ih =>
    rw [flR_cons]
    cases j with
    | zero =>
      simp at h
      subst h
      rw [Nat.zero_mul, Nat.zero_add, List.getElem?_append_left (by simpa using hi)]
    | succ j =>
      rw [List.getElem?_cons_succ] at h
      rw [List.getElem?_append_right (by simp; omega)]
      rw [← ih h]
      congr 1
      simp
      omega
theorem flR_ones {p a : Bt} {q : Option Addr} {n c : Nat} : ∀ u ∈ (rC p a (.slice q n c)).toList, u.oneCell' = true := by
  intro u hu
  simp at hu
  rcases hu with rfl | rfl | rfl | rfl | rfl | rfl | rfl <;> rfl
/-- A row of registers of the call's own. -/
def Ro (W : World) (base : Nat) (v : Value) (os : List RrD) : Prop := W.ownsRow base 61 7 v os.length (flR os)
def CnA (W : World) (base : Nat) (os : List RrD) : Prop := ∀ r ∈ os, Cn W base r.v r.l
theorem Ro.keep {W W' : World} {base : Nat} {v : Value} {os : List RrD} (h : Ro W base v os) (hb : Below W.heap.size W W') : Ro W' base v os := own_keep h hb
theorem CnA.keep {W W' : World} {base : Nat} {os : List RrD} (h : CnA W base os) (hb : Below W.heap.size W W') : CnA W' base os := fun r hr => (h r hr).keep hb
theorem CnA.other {W W' : World} {base g : Nat} {os : List RrD} {cs : Array Value} {t : TypeId} (h : CnA W base os) (hB : Blk W g cs t) (ht : t ≠ 3) (hc : Chg g W W') : CnA W' base os := fun r hr => (h r hr).other hB ht hc
theorem Cn.grown {W W' : World} {base b n : Nat} {v u : Value} {l : List Int} {xs : List Value} {e s : Nat} (h : Cn W base v l) (hR : W.ownsRow b e s u n xs) (he : 3 ≠ e) (hg : W.grownBy W' u.ownBlock) : Cn W' base v l := by
  obtain ⟨g, cap, rfl, h1⟩ := h
  exact ⟨g, cap, rfl, h1.kept hg (sep_ty h1 hR he)⟩
theorem ro_form {W : World} {base : Nat} {v : Value} {os : List RrD} (h : Ro W base v os) : ∃ q c, v = .slice q os.length c := by
  rcases h.2 with ⟨h1, h2⟩ | ⟨g, cap, cur, h1, _⟩
  · rw [h2]; exact ⟨none, 0, h1⟩
  · exact ⟨_, _, h1⟩
theorem ro_row {W : World} {base n c : Nat} {q : Option Addr} {os : List RrD} (h : Ro W base (.slice q n c) os) (hc : CnA W base os) (hz : ∀ r ∈ os, r.l.length ≤ 17592186043904) : ∃ g, RrRow W q n c g 0 os := by
  rcases h.2 with ⟨h1, h2⟩ | ⟨g, cap, cur, h1, hb, hg, h3, h4, h5, h6⟩
  · cases h1
    have : os = [] := List.eq_nil_of_length_eq_zero h2
    subst this
    exact ⟨0, rfl, by omega, by omega, fun h => absurd h (by omega), fun h => absurd h (by omega), fun j x hx => by simp at hx⟩
  · cases h1
    have hcell : ∀ j u, (flR os)[j]? = some u → W.cell? ⟨g, j, none⟩ = some u := by
      intro j u hu
      have hj : j < (flR os).length := (List.getElem?_eq_some_iff.1 hu).1
      rw [cell_of_row W g j cur 61 (0, 0) hg]
      have hl := h.1
      rw [← h6, List.getElem?_take_of_lt (by omega)] at hu
      simpa using hu
    refine ⟨g, rfl, h3, by unfold maxLen at h4; omega, fun _ => rfl, fun _ => (Array.getElem?_eq_some_iff.1 hg).1, fun j x hx => ?_⟩
    rw [Nat.zero_add]
    have hm := List.mem_of_getElem? hx
    exact ⟨hcell _ _ (flR_at (i := 0) hx (by omega)), hcell _ _ (flR_at (i := 1) hx (by omega)), hcell _ _ (flR_at (i := 2) hx (by omega)), hcell _ _ (flR_at (i := 3) hx (by omega)), hcell _ _ (flR_at (i := 4) hx (by omega)), hcell _ _ (flR_at (i := 5) hx (by omega)), hcell _ _ (flR_at (i := 6) hx (by omega)), (hc x hm).is, hz x hm⟩
theorem infoReg : (Try.prog.info? 61).map (fun i => (i.zero, i.size, i.bytes)) = some (some (rV zB zB (.slice none 0 0)), 7, 72) := by kernel_rfl
theorem bsr0 (w : World) : (Instr.buildSlice 36 0 #[]).run Try.prog w = .ok (.slice (some ⟨w.heap.size, 0, none⟩) 0 0) (w.alloc (.cells #[] 61)) := by kernel_rfl
theorem bsr1 (p a : Bt) (q : Option Addr) (n c : Nat) (w : World) : (Instr.buildSlice 36 1 #[(0, rV p a (.slice q n c))]).run Try.prog w = .ok (.slice (some ⟨w.heap.size, 0, none⟩) 1 1) (w.alloc (.cells (rC p a (.slice q n c)) 61)) := by kernel_rfl
section
variable {ops : Array Oper} {rest : List Oper} {o : Oper} {a : Act} {w : World} {Q : Exit → Act → World → Prop}
theorem bs_r0 (A : World) (hw : Region.wanted o (yielded ops a.tmps) = true) {parts : Array (Nat × Operand)} (ho : o.op = .buildSlice 36 0 parts) (hl : parts.map (fun (i, x) => (i, a.eval x)) = #[]) (hA : A.heap.size ≤ w.heap.size)
    (h : ∀ W', Ro W' A.heap.size (.slice (some ⟨w.heap.size, 0, none⟩) 0 0) [] → Below w.heap.size w W' → wpList Try.prog ops Q rest (a.put o.dst (.slice (some ⟨w.heap.size, 0, none⟩) 0 0)) W') : wpList Try.prog ops Q (o :: rest) a w := by
  unfold wpList
  rw [if_pos hw]
  left
  unfold Oper.wp execOp
  simp only [ho, Sem.run_bind, hl, bsr0, Result.andThen_ok]
  exact h _ (own_empty w A 61 7 hA) ((Below.refl _ _).alloc (Nat.le_refl _) _)
theorem bs_r1 (hw : Region.wanted o (yielded ops a.tmps) = true) {parts : Array (Nat × Operand)} (ho : o.op = .buildSlice 36 1 parts) (p b : Bt) (q : Option Addr) (n c : Nat) (hl : parts.map (fun (i, x) => (i, a.eval x)) = #[(0, rV p b (.slice q n c))])
    (h : ∀ W', Blk W' w.heap.size (rC p b (.slice q n c)) 61 → Below w.heap.size w W' → wpList Try.prog ops Q rest (a.put o.dst (.slice (some ⟨w.heap.size, 0, none⟩) 1 1)) W') : wpList Try.prog ops Q (o :: rest) a w := by
  unfold wpList
  rw [if_pos hw]
  left
  unfold Oper.wp execOp
  simp only [ho, Sem.run_bind, hl, bsr1, Result.andThen_ok]
  exact h _ (Blk.new _ _ _) ((Below.refl _ _).alloc (Nat.le_refl _) _)
theorem app_r (A : World) (hw : Region.wanted o (yielded ops a.tmps) = true) {s x : Operand} (ho : o.op = .call { callee := .builtin .append, args := #[s, x], argTypes := #[36, 36] })
    {v : Value} {os : List RrD} {p b : Bt} {q : Option Addr} {n c g : Nat} (l : List Int) (hs : a.eval s = v) (hown : Ro w A.heap.size v os) (hx : a.eval x = .slice (some ⟨g, 0, none⟩) 1 1) (hB : Blk w g (rC p b (.slice q n c)) 61) (hk : os.length ≤ 1000) (hA : Below A.heap.size A w)
    (h : ∀ v' w', Ro w' A.heap.size v' (os ++ [⟨p, b, .slice q n c, l⟩]) → Below A.heap.size A w' → w.grownBy w' v.ownBlock → wpList Try.prog ops Q rest (a.put o.dst v') w') : wpList Try.prog ops Q (o :: rest) a w := by
  refine app_ownG A hw ho Try.underlying36 infoReg rfl (by omega) hs hown (rC p b (.slice q n c)).toList hx (fun e => by cases e) (by simp) (fun ad had j u hu => ?_) flR_ones (by unfold maxLen; omega) (by omega) hA fun v' w' h1 h2 h3 h4 => ?_
  · cases had
    have := hB.at (i := j) (by simpa using hu)
    rw [add_plain _ rfl]
    simpa using this
  · refine h v' w' ?_ h3 h4
    unfold Ro
    rw [flR_append, flR_one1, List.length_append]
    exact h1
end
end Go.Proofs.Ytodmhohccclhmaa
namespace Go.Proofs.Ytodmhohccclhmaa
open Go.RowKit Go.Maps
set_option linter.unusedVariables false
set_option maxRecDepth 100000

/-- Nothing but these blocks has turned, of those that there were. -/
structure Frm (X : Nat → Prop) (W W' : World) : Prop where
  os : W'.os = W.os
  tape : W'.tape = W.tape
  output : W'.output = W.output
  size : W.heap.size ≤ W'.heap.size
  other : ∀ k, k < W.heap.size → ¬ X k → W'.heap[k]? = W.heap[k]?
theorem Frm.refl (X : Nat → Prop) (W : World) : Frm X W W := ⟨rfl, rfl, rfl, Nat.le_refl _, fun _ _ _ => rfl⟩
theorem Frm.trans {X : Nat → Prop} {A B C : World} (h : Frm X A B) (k : Frm X B C) : Frm X A C :=
  ⟨k.os.trans h.os, k.tape.trans h.tape, k.output.trans h.output, Nat.le_trans h.size k.size, fun i hi hx => (k.other i (Nat.lt_of_lt_of_le hi h.size) hx).trans (h.other i hi hx)⟩
theorem Frm.mono {X Y : Nat → Prop} {A B : World} (h : Frm X A B) (hxy : ∀ k, X k → Y k) : Frm Y A B := ⟨h.os, h.tape, h.output, h.size, fun i hi hy => h.other i hi (fun hx => hy (hxy i hx))⟩
/-- What is new may turn. -/
theorem Frm.young {X Y : Nat → Prop} {A B C : World} (h : Frm X A B) (k : Frm Y B C) (hxy : ∀ k, k < A.heap.size → Y k → X k) : Frm X A C :=
  ⟨k.os.trans h.os, k.tape.trans h.tape, k.output.trans h.output, Nat.le_trans h.size k.size, fun i hi hx => (k.other i (Nat.lt_of_lt_of_le hi h.size) (fun hy => hx (hxy i hi hy))).trans (h.other i hi hx)⟩
theorem frm_below {X : Nat → Prop} {A B : World} (h : Below A.heap.size A B) : Frm X A B := ⟨h.os, h.tape, h.output, h.size, fun i hi _ => h.block i hi⟩
theorem frm_chg {X : Nat → Prop} {A B : World} {b : Nat} (h : Chg b A B) (hb : X b) : Frm X A B := ⟨h.os, h.tape, h.output, Nat.le_of_eq h.size.symm, fun i hi hx => h.other i (fun e => hx (e ▸ hb))⟩
theorem frm_grown {X : Nat → Prop} {A B : World} {b : Nat} (h : A.grownBy B (some b)) (hb : X b) : Frm X A B := ⟨h.os, h.tape, h.output, h.size, fun i hi hx => h.block i hi (fun e => hx (by cases e; exact hb))⟩
theorem Frm.below {X : Nat → Prop} {A B : World} (h : Frm X A B) {n : Nat} (hn : n ≤ A.heap.size) (hx : ∀ k, X k → n ≤ k) : Below n A B := ⟨h.os, h.tape, h.output, h.size, fun i hi => h.other i (Nat.lt_of_lt_of_le hi hn) (fun e => by have := hx i e; omega)⟩
theorem Blk.frm {X : Nat → Prop} {W W' : World} {b : Nat} {vs : Array Value} {t : TypeId} (h : Blk W b vs t) (hf : Frm X W W') (hx : ¬ X b) : Blk W' b vs t := by
  unfold Blk; rw [hf.other b h.lt hx]; exact h
/-- What kind of block it is. -/
def kindR (W : World) (k : Nat) (t : TypeId) : Prop := ∃ cur fr, W.heap[k]? = some (.cells cur t fr)
theorem kindR.uniq {W : World} {k : Nat} {t t' : TypeId} (h : kindR W k t) (h' : kindR W k t') : t = t' := by
  obtain ⟨c, f, e⟩ := h
  obtain ⟨c', f', e'⟩ := h'
  rw [e] at e'
  cases e'
  rfl
theorem Blk.kindR {W : World} {k : Nat} {xs : Array Value} {t : TypeId} (h : Blk W k xs t) : kindR W k t := ⟨xs, _, h⟩
theorem own_kindR {W : World} {B n e s : Nat} {v : Value} {xs : List Value} (h : W.ownsRow B e s v n xs) {k : Nat} (hk : v.ownBlock = some k) : kindR W k e := by
  rcases h.2 with ⟨h2, _⟩ | ⟨g, cap, cur, h2, _, hg, _⟩
  · rw [h2] at hk; cases hk
  · rw [h2] at hk
    have : g = k := by simpa [Value.ownBlock] using hk
    subst this
    exact ⟨cur, _, hg⟩
/-- None of these blocks holds numbers. -/
def NoI (X : Nat → Prop) (W : World) : Prop := ∀ k, X k → ¬ kindR W k 3
theorem Io.frm {X : Nat → Prop} {W W' : World} {B : Nat} {v : Value} {l : List Int} (h : Io W B v l) (hf : Frm X W W') (hx : NoI X W) : Io W' B v l :=
  own_at h fun g hg => hf.other g (h.lt g hg).2 (fun e => hx g e (own_kindR h hg))
/-- None of these blocks holds numbers but those of G. -/
def NoG (G X : Nat → Prop) (W : World) : Prop := ∀ k, X k → kindR W k 3 → G k
theorem NoI.g {G X : Nat → Prop} {W : World} (h : NoI X W) : NoG G X W := fun k hk hi => (h k hk hi).elim
/-- Numbers of the call's own that lie in no block of G. -/
def Ig (G : Nat → Prop) (W : World) (B : Nat) (v : Value) (l : List Int) : Prop := Io W B v l ∧ ∀ k, v.ownBlock = some k → ¬ G k
theorem Ig.is {G : Nat → Prop} {W : World} {B : Nat} {v : Value} {l : List Int} (h : Ig G W B v l) : Is W v l := h.1.is
theorem Ig.frm {G X : Nat → Prop} {W W' : World} {B : Nat} {v : Value} {l : List Int} (h : Ig G W B v l) (hf : Frm X W W') (hx : NoG G X W) : Ig G W' B v l :=
  ⟨own_at h.1 fun g hg => hf.other g (h.1.lt g hg).2 (fun e => h.2 g hg (hx g e (own_kindR h.1 hg))), h.2⟩
theorem Ig.keep {G : Nat → Prop} {W W' : World} {B : Nat} {v : Value} {l : List Int} (h : Ig G W B v l) (hb : Below W.heap.size W W') : Ig G W' B v l := ⟨h.1.keep hb, h.2⟩
theorem Ig.less {G : Nat → Prop} {W : World} {B B' : Nat} {v : Value} {l : List Int} (h : Ig G W B v l) (hb : B' ≤ B) : Ig G W B' v l := ⟨h.1.less hb, h.2⟩
theorem ig_new {G : Nat → Prop} {W : World} {B n : Nat} {v : Value} {l : List Int} (h : Io W n v l) (hG : ∀ k, G k → k < n) (hB : B ≤ n) : Ig G W B v l := ⟨h.less hB, fun k hk hg => by have := (h.lt k hk).1; have := hG k hg; omega⟩
theorem noI_false (W : World) : NoI (fun _ => False) W := fun _ h => h.elim

/-- How a map's element reads: as itself. -/
def heldR (v : Value) : Option (DataW Value × List MemPlace) := some (.held v, [])
abbrev ki (k : Nat) : Lit := .int .i64 (k : Int)
theorem keyed11 : Keyed Try.prog 3 := int_keyed Try.underlying3
theorem key11 (k : Nat) (h : k ≤ 1000) : keyOf Try.prog 3 (.int .i64 (k : Int)) = some (ki k) := keyOf_int_mk Try.underlying3 (WalkArith.wf_i64 (by omega))
theorem zeroR11 (w : World) : (zeroValue 61).run Try.prog w = .ok (rV zB zB (.slice none 0 0)) w := by kernel_rfl
theorem ki_ne {i k : Nat} (h : i ≠ k) : ki i ≠ ki k := by intro e; apply h; injection e with _ e; exact Int.ofNat_inj.1 e
theorem own_tight {H : Type} {P : Program} {k : TypeId} {R : Value → Option (DataW H × List MemPlace)} {w : World} {b n : Nat} {D : DataW H} (h : w.ownsMap P k R b n D) : w.ownsMap P k R b (Maps.size D) D := by
  obtain ⟨es, clock, hb, F, hs, hD⟩ := h
  refine ⟨es, clock, hb, F, ?_, hD⟩
  rw [hD]
  simp [Maps.size, length_sorted]
theorem own_mapAt {H : Type} {P : Program} {k : TypeId} {R : Value → Option (DataW H × List MemPlace)} {w w' : World} {b n : Nat} {D : DataW H} (h : w.ownsMap P k R b n D) (he : w'.heap[b]? = w.heap[b]?) : w'.ownsMap P k R b n D := by
  obtain ⟨es, clock, hb, F, hs, hD⟩ := h
  exact ⟨es, clock, he.trans hb, F, hs, hD⟩
theorem own_noKind {H : Type} {P : Program} {k t : TypeId} {R : Value → Option (DataW H × List MemPlace)} {w : World} {b n : Nat} {D : DataW H} (h : w.ownsMap P k R b n D) : ¬ kindR w b t := by
  obtain ⟨es, clock, hb, _⟩ := h
  rintro ⟨cur, fr, e⟩
  rw [hb] at e
  cases e

variable {G : Nat → Prop}
/-- What a map of promises has at a keeper. -/
def PrAt (G : Nat → Prop) (W : World) (B : Nat) (D : DataW Value) (k : Nat) : Option (Bt × List Int) → Prop
  | none => Maps.has D (ki k) = false
  | some (a, l) => Maps.has D (ki k) = true ∧ ∃ q c, (∀ z, D.atKey (ki k) z = .held (rV zB a (.slice q l.length c))) ∧ Ig G W B (.slice q l.length c) l
def Mp (G : Nat → Prop) (W : World) (B m : Nat) (pr : List (Option (Bt × List Int))) : Prop :=
  ∃ D : DataW Value, W.ownsMap Try.prog 3 heldR m (Maps.size D) D ∧ Maps.size D = cntO pr ∧ ∀ k x, pr[k]? = some x → PrAt G W B D k x
/-- A map of those that accepted. -/
def Ma (W : World) (m : Nat) (ac : List Bool) : Prop :=
  ∃ D : DataW Value, W.ownsMap Try.prog 3 unitElem m (Maps.size D) D ∧ Maps.size D = cntB ac ∧ ∀ k x, ac[k]? = some x → Maps.has D (ki k) = x
theorem Mp.lt {W : World} {B m : Nat} {pr : List (Option (Bt × List Int))} (h : Mp G W B m pr) : m < W.heap.size := by obtain ⟨D, h1, -⟩ := h; exact h1.lt
theorem Ma.lt {W : World} {m : Nat} {ac : List Bool} (h : Ma W m ac) : m < W.heap.size := by obtain ⟨D, h1, -⟩ := h; exact h1.lt
theorem Mp.noKind {W : World} {B m : Nat} {pr : List (Option (Bt × List Int))} (h : Mp G W B m pr) (t : TypeId) : ¬ kindR W m t := by obtain ⟨D, h1, -⟩ := h; exact own_noKind h1
theorem Ma.noKind {W : World} {m : Nat} {ac : List Bool} (h : Ma W m ac) (t : TypeId) : ¬ kindR W m t := by obtain ⟨D, h1, -⟩ := h; exact own_noKind h1
theorem Mp.frm {X : Nat → Prop} {W W' : World} {B m : Nat} {pr : List (Option (Bt × List Int))} (h : Mp G W B m pr) (hf : Frm X W W') (hm : ¬ X m) (hx : NoG G X W) : Mp G W' B m pr := by
  have hlt := h.lt
  obtain ⟨D, h1, h2, h3⟩ := h
  refine ⟨D, own_mapAt h1 (hf.other m hlt hm), h2, fun k x hk => ?_⟩
  have := h3 k x hk
  cases x with
  | none => exact this
  | some x =>
    obtain ⟨a, l⟩ := x
    obtain ⟨h4, q, c, h5, h6⟩ := this
    exact ⟨h4, q, c, h5, h6.frm hf hx⟩
theorem Ma.frm {X : Nat → Prop} {W W' : World} {m : Nat} {ac : List Bool} (h : Ma W m ac) (hf : Frm X W W') (hm : ¬ X m) : Ma W' m ac := by
  have hlt := h.lt
  obtain ⟨D, h1, h2, h3⟩ := h
  exact ⟨D, own_mapAt h1 (hf.other m hlt hm), h2, h3⟩
theorem mp_new (w : World) (B n : Nat) : Mp G (w.alloc (.map #[] 0)) B w.heap.size (List.replicate n none) := by
  refine ⟨.map [], World.ownsMap_made w _ _ _, ?_, fun k x hk => ?_⟩
  · show 0 = _
    unfold cntO
    rw [List.countP_replicate]
    simp
  · have := List.mem_of_getElem? hk
    have := List.eq_of_mem_replicate this
    subst this
    rfl
theorem ma_new (w : World) (n : Nat) : Ma (w.alloc (.map #[] 0)) w.heap.size (List.replicate n false) := by
  refine ⟨.map [], World.ownsMap_made w _ _ _, ?_, fun k x hk => ?_⟩
  · show 0 = _
    unfold cntB
    rw [List.countP_replicate]
    simp
  · have := List.mem_of_getElem? hk
    have := List.eq_of_mem_replicate this
    subst this
    rfl
theorem Mp.look_no {w : World} {B m k : Nat} {pr : List (Option (Bt × List Int))} (h : Mp G w B m pr) (hk : pr[k]? = some none) (h5 : k ≤ 1000) :
    (Instr.lookup 78 (.map (some m)) (.int .i64 (k : Int)) true).run Try.prog w = .ok (.tuple #[rV zB zB (.slice none 0 0), .bool false]) w := by
  obtain ⟨D, h1, h2, h3⟩ := h
  obtain ⟨v, ps, hrun, hv⟩ := h1.look_ok keyed11 Try.underlying78 (zeroR11 w) (zd := .held (rV zB zB (.slice none 0 0))) (zp := []) rfl (key11 k h5)
  have hn : Maps.has D (ki k) = false := h3 k none hk
  rw [atKey_of_not_has hn] at hv
  have : v = rV zB zB (.slice none 0 0) := by
    unfold heldR at hv
    injection hv with hv
    injection hv with hv
    injection hv
  rw [hrun, this, hn]
theorem Mp.look_yes {w : World} {B m k : Nat} {pr : List (Option (Bt × List Int))} {a : Bt} {l : List Int} (h : Mp G w B m pr) (hk : pr[k]? = some (some (a, l))) (h5 : k ≤ 1000) :
    ∃ q c, (Instr.lookup 78 (.map (some m)) (.int .i64 (k : Int)) true).run Try.prog w = .ok (.tuple #[rV zB a (.slice q l.length c), .bool true]) w ∧ Io w B (.slice q l.length c) l := by
  obtain ⟨D, h1, h2, h3⟩ := h
  obtain ⟨v, ps, hrun, hv⟩ := h1.look_ok keyed11 Try.underlying78 (zeroR11 w) (zd := .held (rV zB zB (.slice none 0 0))) (zp := []) rfl (key11 k h5)
  obtain ⟨h4, q, c, h6, h7⟩ := h3 k _ hk
  rw [h6] at hv
  have : v = rV zB a (.slice q l.length c) := by
    unfold heldR at hv
    injection hv with hv
    injection hv with hv
    injection hv
  exact ⟨q, c, by rw [hrun, this, h4], h7.1⟩
theorem Mp.put {w : World} {B m k n : Nat} {pr : List (Option (Bt × List Int))} {a : Bt} {l : List Int} {q : Option Addr} {c : Nat} (h : Mp G w B m pr) (hk : pr[k]? = some none) (h5 : k ≤ 1000) (hpl : pr.length ≤ 1000) (hI : Ig G w B (.slice q n c) l) (hn : l.length = n) :
    ∃ w', (Instr.mapUpdate 78 (.map (some m)) (.int .i64 (k : Int)) (rV zB a (.slice q n c))).run Try.prog w = .ok () w' ∧ Mp G w' B m (pr.set k (some (a, l))) ∧ w.grownBy w' (some m) := by
  subst hn
  have hnk := h.noKind 3
  obtain ⟨D, h1, h2, h3⟩ := h
  have hcl := cntO_le pr
  obtain ⟨w', hup, h6, h7⟩ := h1.update (e := 61) (d := .held (rV zB a (.slice q l.length c))) (ps := []) keyed11 Try.underlying78 (by unfold maxLen; omega) (key11 k h5) (val := rV zB a (.slice q l.length c)) rfl
  refine ⟨w', hup, ⟨_, own_tight h6, ?_, fun i x hx => ?_⟩, h7⟩
  · rw [size_put (h1.tidy keyed11), show Maps.has D (ki k) = false from h3 k none hk, cntO_set (a, l) hk, h2]
    simp
  · have hio : ∀ {v : Value} {l' : List Int}, Ig G w B v l' → Ig G w' B v l' := fun {v l'} hv => ⟨own_at hv.1 fun g hg => h7.block g (hv.1.lt g hg).2 (fun e => by cases e; exact hnk (own_kindR hv.1 hg)), hv.2⟩
    by_cases e : i = k
    · subst e
      have hi : i < pr.length := (List.getElem?_eq_some_iff.1 hk).1
      rw [List.getElem?_set_self (by exact hi)] at hx
      cases hx
      exact ⟨has_put_same h1.isMap (by trivial) _, q, c, fun z => atKey_put_same h1.isMap (by trivial) _ _, hio hI⟩
    · rw [List.getElem?_set_ne (fun e' => e e'.symm)] at hx
      have h8 := h3 i x hx
      cases x with
      | none => show Maps.has _ _ = false; rw [has_put_other (ki_ne e)]; exact h8
      | some x =>
        obtain ⟨a', l'⟩ := x
        obtain ⟨h9, q', c', h10, h11⟩ := h8
        exact ⟨by rw [has_put_other (ki_ne e)]; exact h9, q', c', fun z => by rw [atKey_put_other (ki_ne e)]; exact h10 z, hio h11⟩
theorem Mp.len {w : World} {B m : Nat} {pr : List (Option (Bt × List Int))} (h : Mp G w B m pr) (ty : TypeId) : (Builtin.len_ #[78] ty #[.map (some m)]).run Try.prog w = .ok (.int .i64 ((cntO pr : Nat) : Int)) w := by
  obtain ⟨D, h1, h2, h3⟩ := h
  rw [h1.len Try.underlying78 ty, h2]
theorem Ma.put {w : World} {m k : Nat} {ac : List Bool} (h : Ma w m ac) (hk : k < ac.length) (h5 : ac.length ≤ 1000) :
    ∃ w', (Instr.mapUpdate 79 (.map (some m)) (.int .i64 (k : Int)) (.agg #[])).run Try.prog w = .ok () w' ∧ Ma w' m (ac.set k true) ∧ w.grownBy w' (some m) := by
  obtain ⟨D, h1, h2, h3⟩ := h
  have hcl := cntB_le ac
  obtain ⟨w', hup, h6, h7⟩ := h1.update (e := 85) keyed11 Try.underlying79 (by unfold maxLen; omega) (key11 k (by omega)) unitElem_mk
  have hak : ac[k]? = some ac[k] := List.getElem?_eq_getElem hk
  refine ⟨w', hup, ⟨_, own_tight h6, ?_, fun i x hx => ?_⟩, h7⟩
  · rw [size_put (h1.tidy keyed11), h3 k _ hak, cntB_set hak, h2]
  · by_cases e : i = k
    · subst e
      rw [List.getElem?_set_self hk] at hx
      cases hx
      exact has_put_same h1.isMap (by trivial) _
    · rw [List.getElem?_set_ne (fun e' => e e'.symm)] at hx
      rw [has_put_other (ki_ne e)]
      exact h3 i x hx
theorem Ma.len {w : World} {m : Nat} {ac : List Bool} (h : Ma w m ac) (ty : TypeId) : (Builtin.len_ #[79] ty #[.map (some m)]).run Try.prog w = .ok (.int .i64 ((cntB ac : Nat) : Int)) w := by
  obtain ⟨D, h1, h2, h3⟩ := h
  rw [h1.len Try.underlying79 ty, h2]

/-- A round's cells. -/
abbrev rnC (R : Rd) (mp ma : Nat) (vo vn vv : Value) : Array Value := #[.int .i64 (R.n : Int), .int .i64 R.b.n, .int .i64 R.b.nd, .int .i64 R.b.lf, .int .i64 R.c.k, vo, vn, .int .i64 (R.st : Int), .map (some mp), .map (some ma), vv, errV R.e, .int .i64 R.mt.n, .int .i64 R.mt.nd, .int .i64 R.mt.lf]
/-- A round at block b, with its maps in mp and ma. -/
structure Rn (G : Nat → Prop) (W : World) (B b mp ma : Nat) (R : Rd) : Prop where
  geb : B ≤ b
  gep : B ≤ mp
  gea : B ≤ ma
  ne : mp ≠ ma
  mem : ∃ vo vn vv, Blk W b (rnC R mp ma vo vn vv) 81 ∧ Ig G W B vo R.c.o ∧ Ig G W B vn R.c.n ∧ Ig G W B vv R.v
  pm : Mp G W B mp R.pr
  am : Ma W ma R.ac
  ok : RdOK R
theorem Rn.kind {W : World} {B b mp ma : Nat} {R : Rd} (h : Rn G W B b mp ma R) : kindR W b 81 := by obtain ⟨vo, vn, vv, hB, -⟩ := h.mem; exact hB.kindR
theorem Rn.frm {X : Nat → Prop} {W W' : World} {B b mp ma : Nat} {R : Rd} (h : Rn G W B b mp ma R) (hf : Frm X W W') (hx : NoG G X W) (h1 : ¬ X b) (h2 : ¬ X mp) (h3 : ¬ X ma) : Rn G W' B b mp ma R := by
  obtain ⟨vo, vn, vv, hB, i1, i2, i3⟩ := h.mem
  exact ⟨h.geb, h.gep, h.gea, h.ne, ⟨vo, vn, vv, hB.frm hf h1, i1.frm hf hx, i2.frm hf hx, i3.frm hf hx⟩, h.pm.frm hf h2 hx, h.am.frm hf h3, h.ok⟩
theorem Rn.keep {W W' : World} {B b mp ma : Nat} {R : Rd} (h : Rn G W B b mp ma R) (hb : Below W.heap.size W W') : Rn G W' B b mp ma R :=
  h.frm (X := fun _ => False) (frm_below hb) (noI_false W).g (fun e => e) (fun e => e) (fun e => e)
/-- The blocks of a round. -/
def bks (b mp ma : Nat) (k : Nat) : Prop := k = b ∨ k = mp ∨ k = ma
theorem Rn.noI {W : World} {B b mp ma : Nat} {R : Rd} (h : Rn G W B b mp ma R) : NoI (bks b mp ma) W := by
  rintro k (e | e | e) hk
  · subst e; have := hk.uniq h.kind; cases this
  · subst e; exact h.pm.noKind _ hk
  · subst e; exact h.am.noKind _ hk
theorem Rn.below {W W' : World} {B b mp ma : Nat} {R : Rd} (h : Rn G W B b mp ma R) (hf : Frm (bks b mp ma) W W') (hB : B ≤ W.heap.size) : Below B W W' :=
  hf.below hB (fun k hk => by rcases hk with e | e | e <;> subst e; exact h.geb; exact h.gep; exact h.gea)
end Go.Proofs.Ytodmhohccclhmaa
namespace Go.Proofs.Ytodmhohccclhmaa
open Go.RowKit
set_option linter.unusedVariables false
set_option maxRecDepth 100000

abbrev rptr (b : Nat) : Value := .pointer (some ⟨b, 0, none⟩)
theorem Blk.cellV {W : World} {b : Nat} {vs : Array Value} {t : TypeId} (h : Blk W b vs t) {i : Nat} {v : Value} (hv : vs[i]? = some v) : ∀ V, Below W.heap.size W V → V.cell? ⟨b, i, none⟩ = some v := fun V hb => (h.keep hb).at hv
set_option maxHeartbeats 400000 in
theorem rclone_any (v : Value) (l : List Int) (w : World) (hv : Is w v l) (hl : l.length ≤ 100000) : Calls Try.prog 32 #[v] w fun e w' => ∃ v', e = .returned v' ∧ Io w' w.heap.size v' l ∧ Below w.heap.size w w' := by
  go_enter Try.func32, Try.ntmps32
  go_upto_region 1 with fail
  refine wp_region_lit ?_
  refine valS rfl v rfl ?_
  refine app_i w rfl rfl (l := []) (m := l) rfl (own_nil _ _) rfl hv rfl (by omega) (Below.refl _ _) ?_
  intro v' W' hown hnil hb hg hat
  go_wp2_with fail
  go_ret
  exact ⟨_, rfl, io_of hown, hb⟩
theorem rstage_any (b : Nat) (n : Int) (w : World) (c7 : w.cell? ⟨b, 7, none⟩ = some (.int .i64 n)) :
    Calls Try.prog 12 #[rptr b] w fun e w' => e = .returned (.int .i64 n) ∧ w' = w := by
  go_enter Try.func12, Try.ntmps12
  go_wp2_with fail
  go_ret
  exact ⟨rfl, rfl⟩
theorem rstage_nil (w : World) : Calls Try.prog 12 #[.pointer none] w fun e w' => e = .returned (.int .i64 0) ∧ w' = w := by
  go_enter Try.func12, Try.ntmps12
  go_wp2_with fail
  go_ret
  exact ⟨rfl, rfl⟩
set_option maxHeartbeats 400000 in
theorem rballot_any (b : Nat) (x : Bt) (w : World) (c1 : w.cell? ⟨b, 1, none⟩ = some (.int .i64 x.n)) (c2 : w.cell? ⟨b, 2, none⟩ = some (.int .i64 x.nd)) (c3 : w.cell? ⟨b, 3, none⟩ = some (.int .i64 x.lf)) :
    Calls Try.prog 15 #[rptr b] w fun e w' => e = .returned (bV x) ∧ Below w.heap.size w w' := by
  have hlt : b < w.heap.size := World.block_lt_of_cell? w _ c1
  go_enter Try.func15, Try.ntmps15
  go_upto_region 1 with fail
  obtain ⟨A, hAe, hB, hw⟩ := blk1 w #[.int .i64 0, .int .i64 0, .int .i64 0] 23
  rw [hAe]
  have e1 : A.cell? ⟨b, 1, none⟩ = _ := keep_cell hw c1 hlt
  have e2 : A.cell? ⟨b, 2, none⟩ = _ := keep_cell hw c2 hlt
  have e3 : A.cell? ⟨b, 3, none⟩ = _ := keep_cell hw c3 hlt
  obtain ⟨y0, y1, y2⟩ := cells3 (b := zB) hB
  have f0 := hB.frozen 0
  have f1 := hB.frozen 1
  have f2 := hB.frozen 2
  have hbv := Below.refl A.heap.size A
  have hlt2 := hB.lt
  clear hAe c1 c2 c3
  go_wp2_with fail
  have hB3 := ((hB.set 0 (.int .i64 x.n)).set 1 (.int .i64 x.nd)).set 2 (.int .i64 x.lf)
  have C3 := ((chg_set A w.heap.size 0 (.int .i64 x.n)).trans (chg_set _ w.heap.size 1 (.int .i64 x.nd))).trans (chg_set _ w.heap.size 2 (.int .i64 x.lf))
  exact bodyPost_ret (results_cell_row rfl _ _ _ 23 _ (0, 0) _ rfl hB3 Try.underlying23 rfl (info_bt x)) rfl ⟨rfl, ab_chg hw C3 (Nat.le_refl _)⟩
set_option maxHeartbeats 400000 in
theorem rmet_any (b : Nat) (x : Bt) (w : World) (c1 : w.cell? ⟨b, 12, none⟩ = some (.int .i64 x.n)) (c2 : w.cell? ⟨b, 13, none⟩ = some (.int .i64 x.nd)) (c3 : w.cell? ⟨b, 14, none⟩ = some (.int .i64 x.lf)) :
    Calls Try.prog 22 #[rptr b] w fun e w' => e = .returned (bV x) ∧ Below w.heap.size w w' := by
  have hlt : b < w.heap.size := World.block_lt_of_cell? w _ c1
  go_enter Try.func22, Try.ntmps22
  go_upto_region 1 with fail
  obtain ⟨A, hAe, hB, hw⟩ := blk1 w #[.int .i64 0, .int .i64 0, .int .i64 0] 23
  rw [hAe]
  have e1 : A.cell? ⟨b, 12, none⟩ = _ := keep_cell hw c1 hlt
  have e2 : A.cell? ⟨b, 13, none⟩ = _ := keep_cell hw c2 hlt
  have e3 : A.cell? ⟨b, 14, none⟩ = _ := keep_cell hw c3 hlt
  obtain ⟨y0, y1, y2⟩ := cells3 (b := zB) hB
  have f0 := hB.frozen 0
  have f1 := hB.frozen 1
  have f2 := hB.frozen 2
  have hbv := Below.refl A.heap.size A
  have hlt2 := hB.lt
  clear hAe c1 c2 c3
  go_wp2_with fail
  have hB3 := ((hB.set 0 (.int .i64 x.n)).set 1 (.int .i64 x.nd)).set 2 (.int .i64 x.lf)
  have C3 := ((chg_set A w.heap.size 0 (.int .i64 x.n)).trans (chg_set _ w.heap.size 1 (.int .i64 x.nd))).trans (chg_set _ w.heap.size 2 (.int .i64 x.lf))
  exact bodyPost_ret (results_cell_row rfl _ _ _ 23 _ (0, 0) _ rfl hB3 Try.underlying23 rfl (info_bt x)) rfl ⟨rfl, ab_chg hw C3 (Nat.le_refl _)⟩
set_option maxHeartbeats 400000 in
theorem rballot_nil (w : World) : Calls Try.prog 15 #[.pointer none] w fun e w' => e = .returned (bV zB) ∧ Below w.heap.size w w' := by
  go_enter Try.func15, Try.ntmps15
  go_wp2_with fail
  refine bodyPost_ret (v := bV zB) (by simp [results, Try.results15, go_sem, zB]) rfl ⟨rfl, ?_⟩
  repeat (first | exact Below.refl _ _ | refine ab_set ?_ (by dsimp only; omega) _ | refine ab_alloc ?_ _)
set_option maxHeartbeats 400000 in
theorem rmet_nil (w : World) : Calls Try.prog 22 #[.pointer none] w fun e w' => e = .returned (bV zB) ∧ Below w.heap.size w w' := by
  go_enter Try.func22, Try.ntmps22
  go_wp2_with fail
  refine bodyPost_ret (v := bV zB) (by simp [results, Try.results22, go_sem, zB]) rfl ⟨rfl, ?_⟩
  repeat (first | exact Below.refl _ _ | refine ab_set ?_ (by dsimp only; omega) _ | refine ab_alloc ?_ _)
theorem rvalue_any (b : Nat) (v : Value) (l : List Int) (w : World) (c10 : w.cell? ⟨b, 10, none⟩ = some v) (hv : Is w v l) (hl : l.length ≤ 100000) :
    Calls Try.prog 13 #[rptr b] w fun e w' => ∃ v', e = .returned v' ∧ Io w' w.heap.size v' l ∧ Below w.heap.size w w' := by
  obtain ⟨q, c, e⟩ := hv.form
  subst e
  go_enter Try.func13, Try.ntmps13
  go_wp2_with fail
  refine (rclone_any _ l _ hv hl).mono ?_
  rintro e W1 ⟨v1, rfl, hO, hb⟩
  go_wp2_with fail
  go_ret
  exact ⟨_, rfl, hO, hb⟩
theorem rvalue_nil (w : World) : Calls Try.prog 13 #[.pointer none] w fun e w' => e = .returned (.slice none 0 0) ∧ w' = w := by
  go_enter Try.func13, Try.ntmps13
  go_wp2_with fail
  go_ret
  exact ⟨rfl, rfl⟩
theorem rresult_nil (w : World) : Calls Try.prog 17 #[.pointer none] w fun e w' => e = .returned (.tuple #[.slice none 0 0, .nilIface]) ∧ w' = w := by
  go_enter Try.func17, Try.ntmps17
  go_wp2_with fail
  refine (rstage_nil _).mono ?_
  rintro e W1 ⟨rfl, rfl⟩
  go_wp2_with fail
  go_ret2
  exact ⟨rfl, rfl⟩
theorem rmaj_any (b n c : Nat) (w : World) (c0 : w.cell? ⟨b, 0, none⟩ = some (.int .i64 (n : Int))) (hc : c ≤ 1000) :
    Calls Try.prog 34 #[rptr b, .int .i64 (c : Int)] w fun e w' => e = .returned (.bool (decide (n < 2 * c))) ∧ w' = w := by
  go_enter Try.func34, Try.ntmps34
  go_wp2_with fail
  go_ret
  exact ⟨ret_bool (by rw [decide_eq_decide]; omega), rfl⟩
theorem rresult_no (b : Nat) (n : Nat) (w : World) (c7 : w.cell? ⟨b, 7, none⟩ = some (.int .i64 (n : Int))) (hn : n ≠ 3) :
    Calls Try.prog 17 #[rptr b] w fun e w' => e = .returned (.tuple #[.slice none 0 0, .nilIface]) ∧ w' = w := by
  have h1 : ((n : Int) != 3) = true := by simp; omega
  go_enter Try.func17, Try.ntmps17
  go_wp2_with fail
  refine (rstage_any b n _ c7).mono ?_
  rintro e W1 ⟨rfl, rfl⟩
  go_wp2_with fail
  go_ret2
  exact ⟨rfl, rfl⟩
set_option maxHeartbeats 400000 in
theorem rresult_yes (b : Nat) (v x : Value) (l : List Int) (w : World) (c7 : w.cell? ⟨b, 7, none⟩ = some (.int .i64 3)) (c10 : w.cell? ⟨b, 10, none⟩ = some v) (c11 : w.cell? ⟨b, 11, none⟩ = some x) (hv : Is w v l) (hl : l.length ≤ 100000) :
    Calls Try.prog 17 #[rptr b] w fun e w' => ∃ q n c, e = .returned (.tuple #[.slice q n c, x]) ∧ Io w' w.heap.size (.slice q n c) l ∧ l.length = n ∧ Below w.heap.size w w' := by
  have hlt : b < w.heap.size := World.block_lt_of_cell? w _ c7
  have hb0 := Below.refl w.heap.size w
  obtain ⟨q, c, e⟩ := hv.form
  subst e
  obtain ⟨n, hn⟩ : ∃ n, l.length = n := ⟨_, rfl⟩
  rw [hn] at c10 hv
  go_enter Try.func17, Try.ntmps17
  go_upto_region 1 with fail
  go_wp2_with fail
  refine (rstage_any b 3 _ c7).mono ?_
  rintro e W1 ⟨rfl, hW⟩
  subst W1
  go_upto_region 3 with fail
  refine wp_region_held_drew (S := fun w' => Below w.heap.size w w') (by kernel_rfl) (ab_drew (Below.refl _ _)) (fun hHeld => ?_)
  refine takeH (i := 0) (some 7) rfl rfl (by kernel_rfl) (by kernel_rfl) (by kernel_rfl) (fun _ _ _ h => h) (by rfl) (fun w hSw => by (try dsimp only at hSw); go_simp; try rfl) hHeld ?_
  go_frame
  refine takeH (i := 1) (some 8) rfl rfl (by kernel_rfl) (by kernel_rfl) (by kernel_rfl) (fun _ _ _ h => h) (by rfl) (fun w hSw => by (try dsimp only at hSw); go_simp; try rfl) hHeld ?_
  go_frame
  refine takeH (i := 2) (some 9) rfl rfl (by kernel_rfl) (by kernel_rfl) (by kernel_rfl) (fun _ _ _ h => h) (by rfl) (fun w hSw => by (try dsimp only at hSw); go_simp; try rfl) hHeld ?_
  go_frame
  refine takeH (i := 3) (some 10) rfl rfl (by kernel_rfl) (by kernel_rfl) (by kernel_rfl) (fun _ _ _ h => h) (by rfl) (fun w hSw => by (try dsimp only at hSw); have := keep_cell hSw c10 hlt; go_simp; try rfl) hHeld ?_
  go_frame
  refine takeH (i := 5) (some 12) rfl rfl (by kernel_rfl) (by kernel_rfl) (by kernel_rfl) (fun _ _ _ h => h) (by rfl) (fun w hSw => by (try dsimp only at hSw); go_simp; try rfl) hHeld ?_
  go_frame
  refine takeH (i := 6) (some 13) rfl rfl (by kernel_rfl) (by kernel_rfl) (by kernel_rfl) (fun _ _ _ h => h) (by rfl) (fun w hSw => by (try dsimp only at hSw); go_simp; try rfl) hHeld ?_
  go_frame
  refine takeH (i := 7) (some 14) rfl rfl (by kernel_rfl) (by kernel_rfl) (by kernel_rfl) (fun _ _ _ h => h) (by rfl) (fun w hSw => by (try dsimp only at hSw); go_simp; try rfl) hHeld ?_
  go_frame
  refine takeH (i := 8) (some 15) rfl rfl (by kernel_rfl) (by kernel_rfl) (by kernel_rfl) (fun _ _ _ h => h) (by rfl) (fun w hSw => by (try dsimp only at hSw); have := keep_cell hSw c11 hlt; go_simp; try rfl) hHeld ?_
  go_frame
  refine wpAnyH_ready (rs := [4]) (by kernel_rfl) (by simp) (AllReadyH.cons rfl (fun K hK => ?_) AllReadyH.nil)
  go_simp
  refine (rclone_any _ l _ (hv.keep hHeld) hl).mono ?_
  rintro e W4 ⟨v4, rfl, hO4, b4⟩
  show K _ _
  obtain ⟨q4, c4, e4⟩ := hO4.is.form
  rw [hn] at e4
  subst e4
  refine hK.out _ _ (ab_trans hHeld b4) (fun hHeld => ?_)
  clear hK K
  refine takeH (i := 9) (some 2) rfl rfl (by kernel_rfl) (by kernel_rfl) (by kernel_rfl) (fun _ _ _ h => h) (by rfl) (fun w hSw => by (try dsimp only at hSw); go_simp; try rfl) hHeld ?_
  go_frame
  refine takeH (i := 10) (some 3) rfl rfl (by kernel_rfl) (by kernel_rfl) (by kernel_rfl) (fun _ _ _ h => h) (by rfl) (fun w hSw => by (try dsimp only at hSw); go_simp; try rfl) hHeld ?_
  go_frame
  refine wpAnyH_done (by kernel_rfl) ?_ _
  go_wp2_with fail
  go_ret2
  exact ⟨_, _, _, rfl, hO4, hn, hHeld⟩
theorem eqBt (x y : Bt) (w : World) : (binOp .eql 23 (bV x) (bV y)).run Try.prog w = .ok (.bool (eqB x y)) w := by
  have h : eqB x y = (decide (x.n = y.n) && (decide (x.nd = y.nd) && decide (x.lf = y.lf))) := by unfold eqB; rw [Bool.eq_iff_iff]; simp
  rw [h]
  by_cases h1 : x.n = y.n
  · by_cases h2 : x.nd = y.nd
    · by_cases h3 : x.lf = y.lf
      · simp [go_sem, h1, h2, h3]
      · simp [go_sem, h1, h2, h3]
    · simp [go_sem, h1, h2]
  · simp [go_sem, h1]
set_option maxHeartbeats 1000000 in
theorem hears_any (R : Rd) (b : Nat) (k : Int) (x : Bt) (w : World) (c0 : w.cell? ⟨b, 0, none⟩ = some (.int .i64 (R.n : Int))) (c1 : w.cell? ⟨b, 1, none⟩ = some (.int .i64 R.b.n)) (c2 : w.cell? ⟨b, 2, none⟩ = some (.int .i64 R.b.nd)) (c3 : w.cell? ⟨b, 3, none⟩ = some (.int .i64 R.b.lf)) :
    Calls Try.prog 33 #[rptr b, .int .i64 k, bV x] w fun e w' => e = .returned (.bool (hearB R k x)) ∧ Below w.heap.size w w' := by
  have hlt : b < w.heap.size := World.block_lt_of_cell? w _ c1
  go_enter Try.func33, Try.ntmps33
  go_upto_region 1 with fail
  obtain ⟨A, hAe, hB, hw⟩ := blk1 w (bC x) 23
  rw [hAe]
  have hltA : b < A.heap.size := Nat.lt_of_lt_of_le hlt hw.size
  have e0 : ∀ x : Cls A, _ := cls_cell (keep_cell hw c0 hlt) hltA
  have e1 : ∀ x : Cls A, _ := cls_cell (keep_cell hw c1 hlt) hltA
  have e2 : ∀ x : Cls A, _ := cls_cell (keep_cell hw c2 hlt) hltA
  have e3 : ∀ x : Cls A, _ := cls_cell (keep_cell hw c3 hlt) hltA
  have y0 : ∀ x : Cls A, _ := cls_cell (hB.at (i := 0) rfl) hB.lt
  have y1 : ∀ x : Cls A, _ := cls_cell (hB.at (i := 1) rfl) hB.lt
  have y2 : ∀ x : Cls A, _ := cls_cell (hB.at (i := 2) rfl) hB.lt
  have HZ := cls_some A
  have HE : ∀ w, _ := eqBt x R.b
  clear hAe c0 c1 c2 c3 hlt
  refine wp_region_below (by kernel_rfl) (by kernel_rfl) ?_
  cases h1 : eqB x R.b
  · have HF : Hid (hearB R k x = false) := by show _ = _; unfold hearB; rw [h1]; rfl
    rw [h1] at HE
    repeat (go_big_quiet_step (fail))
    refine wpQuiet_nil ?_
    rintro _ ⟨x, rfl⟩
    obtain ⟨W2, hb⟩ := x
    dsimp only
    go_wp2_with fail
    go_ret
    exact ⟨ret_bool HF.out.symm, ab_trans hw hb⟩
  · rw [h1] at HE
    by_cases h2 : 0 ≤ k
    · have HF : Hid (decide (k < (R.n : Int)) = hearB R k x) := by show _ = _; unfold hearB; rw [h1, decide_eq_true h2]; rfl
      have h3 : decide (0 ≤ k) = true := decide_eq_true h2
      repeat (go_big_quiet_step (fail))
      refine wpQuiet_nil ?_
      rintro _ ⟨x, rfl⟩
      obtain ⟨W2, hb⟩ := x
      dsimp only
      go_wp2_with fail
      go_ret
      exact ⟨ret_bool HF.out, ab_trans hw hb⟩
    · have HF : Hid (hearB R k x = false) := by show _ = _; unfold hearB; rw [decide_eq_false h2]; simp
      have h3 : decide (0 ≤ k) = false := decide_eq_false h2
      repeat (go_big_quiet_step (fail))
      refine wpQuiet_nil ?_
      rintro _ ⟨x, rfl⟩
      obtain ⟨W2, hb⟩ := x
      dsimp only
      go_wp2_with fail
      go_ret
      exact ⟨ret_bool HF.out.symm, ab_trans hw hb⟩
theorem hears_nil (k : Int) (x : Bt) (w : World) :
    Calls Try.prog 33 #[.pointer none, .int .i64 k, bV x] w fun e w' => e = .returned (.bool false) ∧ Below w.heap.size w w' := by
  go_enter Try.func33, Try.ntmps33
  go_upto_region 1 with fail
  obtain ⟨A, hAe, hB, hw⟩ := blk1 w (bC x) 23
  rw [hAe]
  clear hAe
  have HZ := cls_some A
  refine wp_region_below (by kernel_rfl) (by kernel_rfl) ?_
  repeat (go_big_quiet_step (fail))
  refine wpQuiet_nil ?_
  rintro _ ⟨x, rfl⟩
  obtain ⟨W2, hb⟩ := x
  dsimp only
  go_wp2_with fail
  go_ret
  exact ⟨rfl, ab_trans hw hb⟩
end Go.Proofs.Ytodmhohccclhmaa
