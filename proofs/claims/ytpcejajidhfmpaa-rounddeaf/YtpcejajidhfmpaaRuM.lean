/-
  A round in memory: its struct, its two maps, the numbers that it holds.
-/
import Derived.Test.YtpcejajidhfmpaaRuP
import Derived.Test.YtpcejajidhfmpaaChO
import Derived.Test.YtpcejajidhfmpaaChD
import Derived.Maps.OwnSet
import Derived.Maps.OwnOps
namespace Go.Proofs.Ytpcejajidhfmpaa
open Go.RowKit Go.Maps
set_option linter.unusedVariables false
set_option maxRecDepth 100000

/-- Nothing but these blocks has turned, of those that there were. -/
structure Frm (X : Nat → Prop) (W W' : World) : Prop where
  os : W'.os = W.os
  tape : W'.tape = W.tape
  output : W'.output = W.output
  size : W.heap.size ≤ W'.heap.size
  other : ∀ k, k < W.heap.size → ¬ X k → W'.heap[k]? = W.heap[k]?
theorem Frm.refl (X : Nat → Prop) (W : World) : Frm X W W := ⟨rfl, rfl, rfl, Nat.le_refl _, fun _ _ _ => rfl⟩
theorem Frm.trans {X : Nat → Prop} {A B C : World} (h : Frm X A B) (k : Frm X B C) : Frm X A C :=
  ⟨k.os.trans h.os, k.tape.trans h.tape, k.output.trans h.output, Nat.le_trans h.size k.size, fun i hi hx => (k.other i (Nat.lt_of_lt_of_le hi h.size) hx).trans (h.other i hi hx)⟩
theorem Frm.mono {X Y : Nat → Prop} {A B : World} (h : Frm X A B) (hxy : ∀ k, X k → Y k) : Frm Y A B := ⟨h.os, h.tape, h.output, h.size, fun i hi hy => h.other i hi (fun hx => hy (hxy i hx))⟩
/-- What is new may turn. -/
theorem Frm.young {X Y : Nat → Prop} {A B C : World} (h : Frm X A B) (k : Frm Y B C) (hxy : ∀ k, k < A.heap.size → Y k → X k) : Frm X A C :=
  ⟨k.os.trans h.os, k.tape.trans h.tape, k.output.trans h.output, Nat.le_trans h.size k.size, fun i hi hx => (k.other i (Nat.lt_of_lt_of_le hi h.size) (fun hy => hx (hxy i hi hy))).trans (h.other i hi hx)⟩
theorem frm_below {X : Nat → Prop} {A B : World} (h : Below A.heap.size A B) : Frm X A B := ⟨h.os, h.tape, h.output, h.size, fun i hi _ => h.block i hi⟩
theorem frm_chg {X : Nat → Prop} {A B : World} {b : Nat} (h : Chg b A B) (hb : X b) : Frm X A B := ⟨h.os, h.tape, h.output, Nat.le_of_eq h.size.symm, fun i hi hx => h.other i (fun e => hx (e ▸ hb))⟩
theorem frm_grown {X : Nat → Prop} {A B : World} {b : Nat} (h : A.grownBy B (some b)) (hb : X b) : Frm X A B := ⟨h.os, h.tape, h.output, h.size, fun i hi hx => h.block i hi (fun e => hx (by cases e; exact hb))⟩
theorem Frm.below {X : Nat → Prop} {A B : World} (h : Frm X A B) {n : Nat} (hn : n ≤ A.heap.size) (hx : ∀ k, X k → n ≤ k) : Below n A B := ⟨h.os, h.tape, h.output, h.size, fun i hi => h.other i (Nat.lt_of_lt_of_le hi hn) (fun e => by have := hx i e; omega)⟩
theorem Blk.frm {X : Nat → Prop} {W W' : World} {b : Nat} {vs : Array Value} {t : TypeId} (h : Blk W b vs t) (hf : Frm X W W') (hx : ¬ X b) : Blk W' b vs t := by
  unfold Blk; rw [hf.other b h.lt hx]; exact h
/-- What kind of block it is. -/
def kindR (W : World) (k : Nat) (t : TypeId) : Prop := ∃ cur fr, W.heap[k]? = some (.cells cur t fr)
theorem kindR.uniq {W : World} {k : Nat} {t t' : TypeId} (h : kindR W k t) (h' : kindR W k t') : t = t' := by
  obtain ⟨c, f, e⟩ := h
  obtain ⟨c', f', e'⟩ := h'
  rw [e] at e'
  cases e'
  rfl
theorem Blk.kindR {W : World} {k : Nat} {xs : Array Value} {t : TypeId} (h : Blk W k xs t) : kindR W k t := ⟨xs, _, h⟩
theorem own_kindR {W : World} {B n e s : Nat} {v : Value} {xs : List Value} (h : W.ownsRow B e s v n xs) {k : Nat} (hk : v.ownBlock = some k) : kindR W k e := by
  rcases h.2 with ⟨h2, _⟩ | ⟨g, cap, cur, h2, _, hg, _⟩
  · rw [h2] at hk; cases hk
  · rw [h2] at hk
    have : g = k := by simpa [Value.ownBlock] using hk
    subst this
    exact ⟨cur, _, hg⟩
/-- None of these blocks holds numbers. -/
def NoI (X : Nat → Prop) (W : World) : Prop := ∀ k, X k → ¬ kindR W k 3
theorem Io.frm {X : Nat → Prop} {W W' : World} {B : Nat} {v : Value} {l : List Int} (h : Io W B v l) (hf : Frm X W W') (hx : NoI X W) : Io W' B v l :=
  own_at h fun g hg => hf.other g (h.lt g hg).2 (fun e => hx g e (own_kindR h hg))
theorem noI_false (W : World) : NoI (fun _ => False) W := fun _ h => h.elim

/-- How a map's element reads: as itself. -/
def heldR (v : Value) : Option (DataW Value × List MemPlace) := some (.held v, [])
abbrev ki (k : Nat) : Lit := .int .i64 (k : Int)
theorem keyed11 : Keyed Try.prog 3 := int_keyed Try.underlying3
theorem key11 (k : Nat) (h : k ≤ 1000) : keyOf Try.prog 3 (.int .i64 (k : Int)) = some (ki k) := keyOf_int_mk Try.underlying3 (WalkArith.wf_i64 (by omega))
theorem zeroR11 (w : World) : (zeroValue 61).run Try.prog w = .ok (rV zB zB (.slice none 0 0)) w := by kernel_rfl
theorem ki_ne {i k : Nat} (h : i ≠ k) : ki i ≠ ki k := by intro e; apply h; injection e with _ e; exact Int.ofNat_inj.1 e
theorem own_tight {H : Type} {P : Program} {k : TypeId} {R : Value → Option (DataW H × List MemPlace)} {w : World} {b n : Nat} {D : DataW H} (h : w.ownsMap P k R b n D) : w.ownsMap P k R b (Maps.size D) D := by
  obtain ⟨es, clock, hb, F, hs, hD⟩ := h
  refine ⟨es, clock, hb, F, ?_, hD⟩
  rw [hD]
  simp [Maps.size, length_sorted]
theorem own_mapAt {H : Type} {P : Program} {k : TypeId} {R : Value → Option (DataW H × List MemPlace)} {w w' : World} {b n : Nat} {D : DataW H} (h : w.ownsMap P k R b n D) (he : w'.heap[b]? = w.heap[b]?) : w'.ownsMap P k R b n D := by
  obtain ⟨es, clock, hb, F, hs, hD⟩ := h
  exact ⟨es, clock, he.trans hb, F, hs, hD⟩
theorem own_noKind {H : Type} {P : Program} {k t : TypeId} {R : Value → Option (DataW H × List MemPlace)} {w : World} {b n : Nat} {D : DataW H} (h : w.ownsMap P k R b n D) : ¬ kindR w b t := by
  obtain ⟨es, clock, hb, _⟩ := h
  rintro ⟨cur, fr, e⟩
  rw [hb] at e
  cases e

/-- What a map of promises has at a keeper. -/
def PrAt (W : World) (B : Nat) (D : DataW Value) (k : Nat) : Option (Bt × List Int) → Prop
  | none => Maps.has D (ki k) = false
  | some (a, l) => Maps.has D (ki k) = true ∧ ∃ q c, (∀ z, D.atKey (ki k) z = .held (rV zB a (.slice q l.length c))) ∧ Io W B (.slice q l.length c) l
def Mp (W : World) (B m : Nat) (pr : List (Option (Bt × List Int))) : Prop :=
  ∃ D : DataW Value, W.ownsMap Try.prog 3 heldR m (Maps.size D) D ∧ Maps.size D = cntO pr ∧ ∀ k x, pr[k]? = some x → PrAt W B D k x
/-- A map of those that accepted. -/
def Ma (W : World) (m : Nat) (ac : List Bool) : Prop :=
  ∃ D : DataW Value, W.ownsMap Try.prog 3 unitElem m (Maps.size D) D ∧ Maps.size D = cntB ac ∧ ∀ k x, ac[k]? = some x → Maps.has D (ki k) = x
theorem Mp.lt {W : World} {B m : Nat} {pr : List (Option (Bt × List Int))} (h : Mp W B m pr) : m < W.heap.size := by obtain ⟨D, h1, -⟩ := h; exact h1.lt
theorem Ma.lt {W : World} {m : Nat} {ac : List Bool} (h : Ma W m ac) : m < W.heap.size := by obtain ⟨D, h1, -⟩ := h; exact h1.lt
theorem Mp.noKind {W : World} {B m : Nat} {pr : List (Option (Bt × List Int))} (h : Mp W B m pr) (t : TypeId) : ¬ kindR W m t := by obtain ⟨D, h1, -⟩ := h; exact own_noKind h1
theorem Ma.noKind {W : World} {m : Nat} {ac : List Bool} (h : Ma W m ac) (t : TypeId) : ¬ kindR W m t := by obtain ⟨D, h1, -⟩ := h; exact own_noKind h1
theorem Mp.frm {X : Nat → Prop} {W W' : World} {B m : Nat} {pr : List (Option (Bt × List Int))} (h : Mp W B m pr) (hf : Frm X W W') (hm : ¬ X m) (hx : NoI X W) : Mp W' B m pr := by
  have hlt := h.lt
  obtain ⟨D, h1, h2, h3⟩ := h
  refine ⟨D, own_mapAt h1 (hf.other m hlt hm), h2, fun k x hk => ?_⟩
  have := h3 k x hk
  cases x with
  | none => exact this
  | some x =>
    obtain ⟨a, l⟩ := x
    obtain ⟨h4, q, c, h5, h6⟩ := this
    exact ⟨h4, q, c, h5, h6.frm hf hx⟩
theorem Ma.frm {X : Nat → Prop} {W W' : World} {m : Nat} {ac : List Bool} (h : Ma W m ac) (hf : Frm X W W') (hm : ¬ X m) : Ma W' m ac := by
  have hlt := h.lt
  obtain ⟨D, h1, h2, h3⟩ := h
  exact ⟨D, own_mapAt h1 (hf.other m hlt hm), h2, h3⟩
theorem mp_new (w : World) (B n : Nat) : Mp (w.alloc (.map #[] 0)) B w.heap.size (List.replicate n none) := by
  refine ⟨.map [], World.ownsMap_made w _ _ _, ?_, fun k x hk => ?_⟩
  · show 0 = _
    unfold cntO
    rw [List.countP_replicate]
    simp
  · have := List.mem_of_getElem? hk
    have := List.eq_of_mem_replicate this
    subst this
    rfl
theorem ma_new (w : World) (n : Nat) : Ma (w.alloc (.map #[] 0)) w.heap.size (List.replicate n false) := by
  refine ⟨.map [], World.ownsMap_made w _ _ _, ?_, fun k x hk => ?_⟩
  · show 0 = _
    unfold cntB
    rw [List.countP_replicate]
    simp
  · have := List.mem_of_getElem? hk
    have := List.eq_of_mem_replicate this
    subst this
    rfl
theorem Mp.look_no {w : World} {B m k : Nat} {pr : List (Option (Bt × List Int))} (h : Mp w B m pr) (hk : pr[k]? = some none) (h5 : k ≤ 1000) :
    (Instr.lookup 78 (.map (some m)) (.int .i64 (k : Int)) true).run Try.prog w = .ok (.tuple #[rV zB zB (.slice none 0 0), .bool false]) w := by
  obtain ⟨D, h1, h2, h3⟩ := h
  obtain ⟨v, ps, hrun, hv⟩ := h1.look_ok keyed11 Try.underlying78 (zeroR11 w) (zd := .held (rV zB zB (.slice none 0 0))) (zp := []) rfl (key11 k h5)
  have hn : Maps.has D (ki k) = false := h3 k none hk
  rw [atKey_of_not_has hn] at hv
  have : v = rV zB zB (.slice none 0 0) := by
    unfold heldR at hv
    injection hv with hv
    injection hv with hv
    injection hv
  rw [hrun, this, hn]
theorem Mp.look_yes {w : World} {B m k : Nat} {pr : List (Option (Bt × List Int))} {a : Bt} {l : List Int} (h : Mp w B m pr) (hk : pr[k]? = some (some (a, l))) (h5 : k ≤ 1000) :
    ∃ q c, (Instr.lookup 78 (.map (some m)) (.int .i64 (k : Int)) true).run Try.prog w = .ok (.tuple #[rV zB a (.slice q l.length c), .bool true]) w ∧ Io w B (.slice q l.length c) l := by
  obtain ⟨D, h1, h2, h3⟩ := h
  obtain ⟨v, ps, hrun, hv⟩ := h1.look_ok keyed11 Try.underlying78 (zeroR11 w) (zd := .held (rV zB zB (.slice none 0 0))) (zp := []) rfl (key11 k h5)
  obtain ⟨h4, q, c, h6, h7⟩ := h3 k _ hk
  rw [h6] at hv
  have : v = rV zB a (.slice q l.length c) := by
    unfold heldR at hv
    injection hv with hv
    injection hv with hv
    injection hv
  exact ⟨q, c, by rw [hrun, this, h4], h7⟩
theorem Mp.put {w : World} {B m k n : Nat} {pr : List (Option (Bt × List Int))} {a : Bt} {l : List Int} {q : Option Addr} {c : Nat} (h : Mp w B m pr) (hk : pr[k]? = some none) (h5 : k ≤ 1000) (hpl : pr.length ≤ 1000) (hI : Io w B (.slice q n c) l) (hn : l.length = n) :
    ∃ w', (Instr.mapUpdate 78 (.map (some m)) (.int .i64 (k : Int)) (rV zB a (.slice q n c))).run Try.prog w = .ok () w' ∧ Mp w' B m (pr.set k (some (a, l))) ∧ w.grownBy w' (some m) := by
  subst hn
  have hnk := h.noKind 3
  obtain ⟨D, h1, h2, h3⟩ := h
  have hcl := cntO_le pr
  obtain ⟨w', hup, h6, h7⟩ := h1.update (e := 61) (d := .held (rV zB a (.slice q l.length c))) (ps := []) keyed11 Try.underlying78 (by unfold maxLen; omega) (key11 k h5) (val := rV zB a (.slice q l.length c)) rfl
  refine ⟨w', hup, ⟨_, own_tight h6, ?_, fun i x hx => ?_⟩, h7⟩
  · rw [size_put (h1.tidy keyed11), show Maps.has D (ki k) = false from h3 k none hk, cntO_set (a, l) hk, h2]
    simp
  · have hio : ∀ {v : Value} {l' : List Int}, Io w B v l' → Io w' B v l' := fun {v l'} hv => own_at hv fun g hg => h7.block g (hv.lt g hg).2 (fun e => by cases e; exact hnk (own_kindR hv hg))
    by_cases e : i = k
    · subst e
      have hi : i < pr.length := (List.getElem?_eq_some_iff.1 hk).1
      rw [List.getElem?_set_self (by exact hi)] at hx
      cases hx
      exact ⟨has_put_same h1.isMap (by trivial) _, q, c, fun z => atKey_put_same h1.isMap (by trivial) _ _, hio hI⟩
    · rw [List.getElem?_set_ne (fun e' => e e'.symm)] at hx
      have h8 := h3 i x hx
      cases x with
      | none => show Maps.has _ _ = false; rw [has_put_other (ki_ne e)]; exact h8
      | some x =>
        obtain ⟨a', l'⟩ := x
        obtain ⟨h9, q', c', h10, h11⟩ := h8
        exact ⟨by rw [has_put_other (ki_ne e)]; exact h9, q', c', fun z => by rw [atKey_put_other (ki_ne e)]; exact h10 z, hio h11⟩
theorem Mp.len {w : World} {B m : Nat} {pr : List (Option (Bt × List Int))} (h : Mp w B m pr) (ty : TypeId) : (Builtin.len_ #[78] ty #[.map (some m)]).run Try.prog w = .ok (.int .i64 ((cntO pr : Nat) : Int)) w := by
  obtain ⟨D, h1, h2, h3⟩ := h
  rw [h1.len Try.underlying78 ty, h2]
theorem Ma.put {w : World} {m k : Nat} {ac : List Bool} (h : Ma w m ac) (hk : k < ac.length) (h5 : ac.length ≤ 1000) :
    ∃ w', (Instr.mapUpdate 79 (.map (some m)) (.int .i64 (k : Int)) (.agg #[])).run Try.prog w = .ok () w' ∧ Ma w' m (ac.set k true) ∧ w.grownBy w' (some m) := by
  obtain ⟨D, h1, h2, h3⟩ := h
  have hcl := cntB_le ac
  obtain ⟨w', hup, h6, h7⟩ := h1.update (e := 85) keyed11 Try.underlying79 (by unfold maxLen; omega) (key11 k (by omega)) unitElem_mk
  have hak : ac[k]? = some ac[k] := List.getElem?_eq_getElem hk
  refine ⟨w', hup, ⟨_, own_tight h6, ?_, fun i x hx => ?_⟩, h7⟩
  · rw [size_put (h1.tidy keyed11), h3 k _ hak, cntB_set hak, h2]
  · by_cases e : i = k
    · subst e
      rw [List.getElem?_set_self hk] at hx
      cases hx
      exact has_put_same h1.isMap (by trivial) _
    · rw [List.getElem?_set_ne (fun e' => e e'.symm)] at hx
      rw [has_put_other (ki_ne e)]
      exact h3 i x hx
theorem Ma.len {w : World} {m : Nat} {ac : List Bool} (h : Ma w m ac) (ty : TypeId) : (Builtin.len_ #[79] ty #[.map (some m)]).run Try.prog w = .ok (.int .i64 ((cntB ac : Nat) : Int)) w := by
  obtain ⟨D, h1, h2, h3⟩ := h
  rw [h1.len Try.underlying79 ty, h2]

/-- A round's cells. -/
abbrev rnC (R : Rd) (mp ma : Nat) (vo vn vv : Value) : Array Value := #[.int .i64 (R.n : Int), .int .i64 R.b.n, .int .i64 R.b.nd, .int .i64 R.b.lf, .int .i64 R.c.k, vo, vn, .int .i64 (R.st : Int), .map (some mp), .map (some ma), vv, errV R.e, .int .i64 R.mt.n, .int .i64 R.mt.nd, .int .i64 R.mt.lf]
/-- A round at block b, with its maps in mp and ma. -/
structure Rn (W : World) (B b mp ma : Nat) (R : Rd) : Prop where
  geb : B ≤ b
  gep : B ≤ mp
  gea : B ≤ ma
  ne : mp ≠ ma
  mem : ∃ vo vn vv, Blk W b (rnC R mp ma vo vn vv) 81 ∧ Io W B vo R.c.o ∧ Io W B vn R.c.n ∧ Io W B vv R.v
  pm : Mp W B mp R.pr
  am : Ma W ma R.ac
  ok : RdOK R
theorem Rn.kind {W : World} {B b mp ma : Nat} {R : Rd} (h : Rn W B b mp ma R) : kindR W b 81 := by obtain ⟨vo, vn, vv, hB, -⟩ := h.mem; exact hB.kindR
theorem Rn.frm {X : Nat → Prop} {W W' : World} {B b mp ma : Nat} {R : Rd} (h : Rn W B b mp ma R) (hf : Frm X W W') (hx : NoI X W) (h1 : ¬ X b) (h2 : ¬ X mp) (h3 : ¬ X ma) : Rn W' B b mp ma R := by
  obtain ⟨vo, vn, vv, hB, i1, i2, i3⟩ := h.mem
  exact ⟨h.geb, h.gep, h.gea, h.ne, ⟨vo, vn, vv, hB.frm hf h1, i1.frm hf hx, i2.frm hf hx, i3.frm hf hx⟩, h.pm.frm hf h2 hx, h.am.frm hf h3, h.ok⟩
theorem Rn.keep {W W' : World} {B b mp ma : Nat} {R : Rd} (h : Rn W B b mp ma R) (hb : Below W.heap.size W W') : Rn W' B b mp ma R :=
  h.frm (X := fun _ => False) (frm_below hb) (noI_false W) (fun e => e) (fun e => e) (fun e => e)
/-- The blocks of a round. -/
def bks (b mp ma : Nat) (k : Nat) : Prop := k = b ∨ k = mp ∨ k = ma
theorem Rn.noI {W : World} {B b mp ma : Nat} {R : Rd} (h : Rn W B b mp ma R) : NoI (bks b mp ma) W := by
  rintro k (e | e | e) hk
  · subst e; have := hk.uniq h.kind; cases this
  · subst e; exact h.pm.noKind _ hk
  · subst e; exact h.am.noKind _ hk
theorem Rn.below {W W' : World} {B b mp ma : Nat} {R : Rd} (h : Rn W B b mp ma R) (hf : Frm (bks b mp ma) W W') (hB : B ≤ W.heap.size) : Below B W W' :=
  hf.below hB (fun k hk => by rcases hk with e | e | e <;> subst e; exact h.geb; exact h.gep; exact h.gea)
end Go.Proofs.Ytpcejajidhfmpaa
