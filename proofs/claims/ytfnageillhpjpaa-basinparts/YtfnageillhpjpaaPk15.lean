/-
  Rows of things that lie in so many cells each: own ones, such as are read; copy of them. Nothing here names the program.
-/
import Derived.Test.YtfnageillhpjpaaPk06
import Derived.Test.YtfnageillhpjpaaPk05
import Derived.Test.YtfnageillhpjpaaPk11
import Derived.Test.YtfnageillhpjpaaPk04
import Derived.Laws.CopyRow
import Derived.Laws.MakeOwn
import Derived.Laws.OwnMore
namespace Go.Proofs.Ytfnageillhpjpaa
set_option maxRecDepth 100000
open Go.RowKit
set_option linter.unusedVariables false

/-- How things lie in memory: each in so many cells. -/
structure En (α : Type) where
  k : Nat
  f : α → List Value
  len : ∀ x, (f x).length = k
  one : ∀ x, ∀ u ∈ f x, u.oneCell' = true
  pos : 0 < k
section
variable {α : Type} (E : En α)
def En.fl (l : List α) : List Value := l.flatMap E.f
theorem En.fl_nil : E.fl [] = [] := rfl
theorem En.fl_cons (x : α) (l : List α) : E.fl (x :: l) = E.f x ++ E.fl l := by simp [En.fl]
theorem En.fl_append (l m : List α) : E.fl (l ++ m) = E.fl l ++ E.fl m := by simp [En.fl]
theorem En.fl_one1 (x : α) : E.fl [x] = E.f x := by simp [En.fl]
theorem En.fl_len : ∀ l, (E.fl l).length = l.length * E.k
  | [] => by simp [En.fl]
  | c :: l => by rw [E.fl_cons, List.length_append, E.len, En.fl_len l, List.length_cons, Nat.add_mul, Nat.one_mul, Nat.add_comm]
theorem En.fl_cell (l : List α) : ∀ u ∈ E.fl l, u.oneCell' = true := by
  intro u hu
  obtain ⟨c, _, h⟩ := List.mem_flatMap.1 hu
  exact E.one c u h
theorem En.fl_at : ∀ (l : List α) (j : Nat) (c : α), l[j]? = some c → ∀ i v, (E.f c)[i]? = some v → (E.fl l)[j * E.k + i]? = some v
  | [], j, c, h, _, _, _ => by simp at h
  | d :: l, 0, c, h, i, v, hv => by
    simp at h
    subst h
    have hlt := (List.getElem?_eq_some_iff.1 hv).1
    rw [E.fl_cons, Nat.zero_mul, Nat.zero_add, List.getElem?_append_left hlt, hv]
  | d :: l, j + 1, c, h, i, v, hv => by
    have := En.fl_at l j c (by simpa using h) i v hv
    rw [E.fl_cons, List.getElem?_append_right (by rw [E.len, Nat.add_mul]; omega), E.len, ← this]
    congr 1
    rw [Nat.add_mul]; omega
theorem En.fl_take (l : List α) (n : Nat) : (E.fl l).take (n * E.k) = E.fl (l.take n) := by
  by_cases h : n ≤ l.length
  · have e : E.fl l = E.fl (l.take n) ++ E.fl (l.drop n) := by rw [← E.fl_append, List.take_append_drop]
    rw [e, List.take_left' (by rw [E.fl_len, List.length_take, Nat.min_eq_left h])]
  · rw [List.take_of_length_le (by rw [E.fl_len]; exact Nat.mul_le_mul_right _ (by omega)), List.take_of_length_le (by omega)]
theorem En.fl_drop (l : List α) (n : Nat) : (E.fl l).drop (n * E.k) = E.fl (l.drop n) := by
  by_cases h : n ≤ l.length
  · have e : E.fl l = E.fl (l.take n) ++ E.fl (l.drop n) := by rw [← E.fl_append, List.take_append_drop]
    rw [e, List.drop_left' (by rw [E.fl_len, List.length_take, Nat.min_eq_left h])]
  · rw [List.drop_of_length_le (by rw [E.fl_len]; exact Nat.mul_le_mul_right _ (by omega)), List.drop_of_length_le (by omega), E.fl_nil]
theorem En.fl_set (l : List α) (n : Nat) (c : α) (h : n < l.length) : E.fl (l.set n c) = (E.fl l).take (n * E.k) ++ E.f c ++ (E.fl l).drop ((n + 1) * E.k) := by
  rw [E.fl_take, E.fl_drop, List.set_eq_take_append_cons_drop, if_pos h, E.fl_append, E.fl_cons, List.append_assoc]
/-- A slice of them of the call's own. -/
def EO (e : TypeId) (W : World) (base : Nat) (v : Value) (l : List α) : Prop := W.ownsRow base e E.k v l.length (E.fl l)
/-- A slice of them that is read. -/
def ER (W : World) (v : Value) (l : List α) : Prop := ∃ q cap g off, v = .slice q l.length cap ∧ l.length ≤ cap ∧ cap ≤ 9223372036854775807 ∧ (0 < l.length → q = some ⟨g, off, none⟩ ∧ g < W.heap.size) ∧ ∀ j u, (E.fl l)[j]? = some u → W.cell? ⟨g, off + j, none⟩ = some u
variable {E} {e : TypeId} {W W' : World} {base : Nat} {v : Value} {l : List α}
theorem EO.er (h : EO E e W base v l) : ER E W v l := by
  obtain ⟨h1, q, g, cap, h2, h3, h4, h5, h6, h7, h8, hc, h9⟩ := own_open h E.pos
  exact ⟨q, cap, g, 0, h2, h7, h8, fun h => ⟨h3 h, h4 h⟩, fun j u hu => by rw [Nat.zero_add]; exact hc j u hu⟩
theorem eo_of {n : Nat} (h : W.ownsRow base e E.k v n (E.fl l)) : EO E e W base v l := by
  have := h.1
  rw [E.fl_len] at this
  have hn : l.length = n := Nat.eq_of_mul_eq_mul_right E.pos this
  unfold EO
  rwa [hn]
theorem eo_nil (E : En α) (e : TypeId) (W : World) (base : Nat) : EO E e W base (.slice none 0 0) [] := World.ownsRow_nil W _ _ _
theorem EO.keep (h : EO E e W base v l) (hb : Below W.heap.size W W') : EO E e W' base v l := own_keep h hb
theorem EO.form (h : EO E e W base v l) : ∃ q cap, v = .slice q l.length cap := by
  obtain ⟨q, cap, g, off, h1, _⟩ := h.er
  exact ⟨q, cap, h1⟩
theorem ER.form (h : ER E W v l) : ∃ q cap, v = .slice q l.length cap := by
  obtain ⟨q, cap, g, off, h1, _⟩ := h
  exact ⟨q, cap, h1⟩
theorem ER.keep (h : ER E W v l) (hb : Below W.heap.size W W') : ER E W' v l := by
  obtain ⟨q, cap, g, off, h1, h2, h3, h4, h5⟩ := h
  refine ⟨q, cap, g, off, h1, h2, h3, fun h => ⟨(h4 h).1, Nat.lt_of_lt_of_le (h4 h).2 hb.size⟩, fun j u hu => ?_⟩
  have hl : 0 < l.length := by
    have := (List.getElem?_eq_some_iff.1 hu).1
    rw [E.fl_len] at this
    exact Nat.pos_of_ne_zero (fun e => by rw [e] at this; simp at this)
  exact (hb.cell (p := ⟨g, _, none⟩) (h4 hl).2).trans (h5 j u hu)
theorem er_nil (E : En α) (W : World) : ER E W (.slice none 0 0) [] := (eo_nil E 0 W 0).er
/-- Where one of them lies. -/
theorem ER.at (h : ER E W v l) : ∃ q cap g off, v = .slice q l.length cap ∧ l.length ≤ cap ∧ cap ≤ 9223372036854775807 ∧ (0 < l.length → q = some ⟨g, off, none⟩ ∧ g < W.heap.size) ∧ ∀ j c, l[j]? = some c → ∀ i u, (E.f c)[i]? = some u → W.cell? ⟨g, off + j * E.k + i, none⟩ = some u := by
  obtain ⟨q, cap, g, off, h1, h2, h3, h4, h5⟩ := h
  exact ⟨q, cap, g, off, h1, h2, h3, h4, fun j c hj i u hu => by rw [Nat.add_assoc]; exact h5 _ _ (E.fl_at l j c hj i u hu)⟩
theorem ER.src (h : ER E W v l) : ∃ q cap, v = .slice q l.length cap ∧ (q = none → l.length = 0) ∧ (∀ ad, q = some ad → ∀ j u, (E.fl l)[j]? = some u → W.cell? (ad.add j) = some u) := by
  obtain ⟨q, cap, g, off, h1, h2, h3, h4, h5⟩ := h
  refine ⟨q, cap, h1, fun hq => ?_, fun ad had j u hu => ?_⟩
  · by_cases h0 : 0 < l.length
    · have := (h4 h0).1; rw [hq] at this; cases this
    · omega
  · have h0 : 0 < l.length := by
      have := (List.getElem?_eq_some_iff.1 hu).1
      rw [E.fl_len] at this
      exact Nat.pos_of_ne_zero (fun e => by rw [e] at this; simp at this)
    have := (h4 h0).1
    rw [had] at this
    cases this
    rw [Addr.add_mid]
    exact h5 j u hu
end
section
variable {P : Program} {α : Type} {E : En α} {ops : Array Oper} {rest : List Oper} {o : Oper} {a : Act} {w : World} {Q : Exit → Act → World → Prop}
/-- append of them onto an own slice of them. -/
theorem app_e (A : World) (hw : Region.wanted o (yielded ops a.tmps) = true) {s x : Operand} {t e : TypeId} {bytes : Nat} {z : Value} (ho : o.op = .call { callee := .builtin .append, args := #[s, x], argTypes := #[t, t] })
    (ht : P.underlying t = some (.slice e)) (hinf : (P.info? e).map (fun i => (i.zero, i.size, i.bytes)) = some (some z, E.k, bytes)) (hz : z.cells.size = E.k)
    {v vx : Value} {l m : List α} (hs : a.eval s = v) (hown : EO E e w A.heap.size v l) (hx : a.eval x = vx) (hsl : ER E w vx m) (h63 : l.length + m.length ≤ 1000000000) (hbytes : (l.length + m.length) * bytes ≤ 140737488355328) (hA : Below A.heap.size A w)
    (h : ∀ v' w', EO E e w' A.heap.size v' (l ++ m) → Below A.heap.size A w' → w.grownBy w' v.ownBlock → wpList P ops Q rest (a.put o.dst v') w') : wpList P ops Q (o :: rest) a w := by
  obtain ⟨q, cap, rfl, hq, hsrc⟩ := hsl.src
  refine app_ownG A hw ho ht hinf hz E.pos hs hown (E.fl m) hx hq (E.fl_len m) hsrc (E.fl_cell m) (by unfold maxLen; omega) hbytes hA fun v' w' h1 h2 h3 h4 => ?_
  rw [← E.fl_append] at h1
  exact h v' w' (eo_of h1) h3 h4
/-- The same at one operation. -/
theorem appEW {K : Act → World → Prop} (A : World) (d : Option Tmp) (hd : o.dst = d) {s x : Operand} {t e : TypeId} {bytes : Nat} {z : Value} (ho : o.op = .call { callee := .builtin .append, args := #[s, x], argTypes := #[t, t] })
    (ht : P.underlying t = some (.slice e)) (hinf : (P.info? e).map (fun i => (i.zero, i.size, i.bytes)) = some (some z, E.k, bytes)) (hz : z.cells.size = E.k)
    {v vx : Value} {l m : List α} (hs : a.eval s = v) (hown : EO E e w A.heap.size v l) (hx : a.eval x = vx) (hsl : ER E w vx m) (h63 : l.length + m.length ≤ 1000000000) (hbytes : (l.length + m.length) * bytes ≤ 140737488355328) (hA : Below A.heap.size A w)
    (h : ∀ v' w', EO E e w' A.heap.size v' (l ++ m) → Below A.heap.size A w' → w.grownBy w' v.ownBlock → K (a.put d v') w') : o.wp P a w K Q := by
  obtain ⟨q, cap, rfl, hq, hsrc⟩ := hsl.src
  refine appW A d hd ho ht hinf hz E.pos hs hown (E.fl m) hx hq (E.fl_len m) hsrc (E.fl_cell m) (by unfold maxLen; omega) hbytes hA fun v' w' h1 h2 h3 h4 => ?_
  rw [← E.fl_append] at h1
  exact h v' w' (eo_of h1) h3 h4
/-- copy of things of so many cells: its run. -/
theorem run_copy_rowK (w : World) (dT sT ty elem : TypeId) (k : Nat) (g o dLen dCap : Nat) (a : Addr) (sLen sCap : Nat) (cur : Array Value) (t : TypeId) (cs : List Value)
    (hu : P.underlying dT = some (.slice elem)) (hs : (P.info? elem).map (·.size) = some k)
    (hg : w.heap[g]? = some (.cells cur t (0, 0))) (hn : cs.length = Nat.min sLen dLen * k)
    (hsrc : ∀ j v, cs[j]? = some v → w.cell? (a.add j) = some v) (hfit : o + cs.length ≤ cur.size) (h1 : ∀ v ∈ cs, v.oneCell' = true) :
    (Builtin.copy_ #[dT, sT] ty #[.slice (some ⟨g, o, none⟩) dLen dCap, .slice (some a) sLen sCap]).run P w =
      .ok (goInt (Nat.min sLen dLen)) (w.setRow g (cur.toList.take o ++ cs ++ cur.toList.drop (o + cs.length)).toArray) := by
  have hl := run_loadCells_list (P := P) w a cs hsrc
  have hst := run_storeCells_at P g o t cs 0 cur w hg (by simpa using hfit) h1
  cases hq : P.info? elem with
  | none => simp [hq] at hs
  | some i =>
    have hi : i.size = k := by simpa [hq] using hs
    simp [Builtin.copy_, run_underlying hu, Builtin.lenOf, Builtin.firstCells, sizeOf, typeInfo, hq, hi, ← hn, hl, hst]
end
theorem made_E {α : Type} (E : En α) (zz : α) (z : Array Value) (hz : z.toList = E.f zz) (n : Nat) : (madeCells z (n * E.k)).toList = E.fl (List.replicate n zz) := by
  have hs : z.size = E.k := by rw [← Array.length_toList, hz, E.len]
  have hk := E.pos
  apply List.ext_getElem?
  intro j
  by_cases hj : j < n * E.k
  · have hm : j % E.k < E.k := Nat.mod_lt _ hk
    have hd : j / E.k < n := Nat.div_lt_of_lt_mul (by rwa [Nat.mul_comm])
    have hv : (E.f zz)[j % E.k]? = some (z[j % E.k]'(by omega)) := by rw [← hz]; simp [hs, hm]
    have := E.fl_at (List.replicate n zz) (j / E.k) zz (by simp [hd]) (j % E.k) _ hv
    rw [Nat.mul_comm, Nat.div_add_mod] at this
    rw [this]
    simp [madeCells, hj, hs, hm]
  · rw [List.getElem?_eq_none (by simp [madeCells]; omega), List.getElem?_eq_none (by rw [E.fl_len, List.length_replicate]; omega)]
/-- An own row without room behind it is its block. -/
theorem own_full {W : World} {base e k g n : Nat} {xs : List Value} (h : W.ownsRow base e k (.slice (some ⟨g, 0, none⟩) n n) n xs) : Blk W g xs.toArray e ∧ base ≤ g := by
  obtain ⟨h1, h2⟩ := h
  rcases h2 with ⟨h2, _⟩ | ⟨g', cap, cur, e1, hb, hg, hnc, hcm, hcs, ht⟩
  · cases h2
  · cases e1
    rw [List.take_of_length_le (by simp [hcs])] at ht
    refine ⟨?_, hb⟩
    unfold Blk
    rw [hg, ← ht]
theorem own_blkE {W : World} {base e k g n : Nat} {xs : List Value} (h : Blk W g xs.toArray e) (hb : base ≤ g) (hl : xs.length = n * k) (hn : n ≤ maxLen) : W.ownsRow base e k (.slice (some ⟨g, 0, none⟩) n n) n xs :=
  ⟨hl, .inr ⟨g, n, xs.toArray, rfl, hb, h, Nat.le_refl _, hn, by simp [hl], List.take_of_length_le (by simp [hl])⟩⟩
section
variable {P : Program} {α : Type} {E : En α} {ops : Array Oper} {rest : List Oper} {o : Oper} {a : Act} {w : World} {Q : Exit → Act → World → Prop}
/-- 'make' of so many things. -/
theorem mk_e (hw : Region.wanted o (yielded ops a.tmps) = true) {t e : TypeId} {bytes : Nat} {z : Array Value} (zz : α) (hzz : z.toList = E.f zz) (ht : P.underlying t = some (.slice e)) (hinf : (P.info? e).map (fun i => (i.zero, i.size, i.bytes)) = some (some (.agg z), E.k, bytes))
    {x y : Operand} (ho : o.op = .makeSlice t x y) {c : Nat} {C : Int} (hx : a.eval x = .int .i64 C) (hy : a.eval y = .int .i64 C) (hC : C = (c : Int)) (hb : bytes * c ≤ 281474976710656) (hc : c ≤ 1000000000)
    (h : ∀ W', Blk W' w.heap.size (E.fl (List.replicate c zz)).toArray e → Below w.heap.size w W' → wpList P ops Q rest (a.put o.dst (.slice (some ⟨w.heap.size, 0, none⟩) c c)) W') : wpList P ops Q (o :: rest) a w := by
  subst hC
  obtain ⟨i, hi, hz0, hz1, hz2⟩ := info_parts hinf
  obtain ⟨w', hr, ho', hg⟩ := run_make_full (P := P) w w.heap.size t e i _ E.k ht hi hz0 hz1 .i64 .i64 c (by rw [hz2]; exact hb) (by unfold maxLen; omega) (Nat.le_refl _)
  rw [show (Value.agg z).cells = z from rfl, made_E E zz z hzz] at ho'
  unfold wpList
  rw [if_pos hw]
  left
  unfold Oper.wp execOp
  simp only [ho, Sem.run_bind, hx, hy, hr, Result.andThen_ok]
  exact h _ (own_full ho').1 (below_grown (Below.refl _ _) hg)
/-- 'copy', where its run is known by an equation. -/
theorem cpW {K : Act → World → Prop} (d : Option Tmp) (hd : o.dst = d) {x s : Operand} {t t' : TypeId} (ho : o.op = .call { callee := .builtin .copy, args := #[x, s], argTypes := #[t, t'] }) (v u : Value) (hx : a.eval x = v) (hs : a.eval s = u) {v' : Value} {w' : World}
    (hr : ∀ ty, (Builtin.copy_ #[t, t'] ty #[v, u]).run P w = .ok v' w') (h : K (a.put d v') w') : o.wp P a w K Q := by
  subst hd
  unfold Oper.wp execOp
  simp only [ho, resolve, invoke, builtin, Sem.run_bind, Sem.run_pure, Result.andThen_ok, List.map_toArray, List.map_cons, List.map_nil, hx, hs, hr]
  exact h
theorem cp_l (hw : Region.wanted o (yielded ops a.tmps) = true) {x s : Operand} {t t' : TypeId} (ho : o.op = .call { callee := .builtin .copy, args := #[x, s], argTypes := #[t, t'] }) (v u : Value) (hx : a.eval x = v) (hs : a.eval s = u) {v' : Value} {w' : World}
    (hr : ∀ ty, (Builtin.copy_ #[t, t'] ty #[v, u]).run P w = .ok v' w') (h : wpList P ops Q rest (a.put o.dst v') w') : wpList P ops Q (o :: rest) a w := by
  unfold wpList
  rw [if_pos hw]
  left
  exact cpW o.dst rfl ho v u hx hs hr h
end
/-- A block whose cells were spliced. -/
theorem blk_setRow {W : World} {g : Nat} {cur : Array Value} {t : TypeId} (h : Blk W g cur t) (r : Array Value) : Blk (W.setRow g r) g r t := setRow_heap W g cur r t (0, 0) h
end Go.Proofs.Ytfnageillhpjpaa
