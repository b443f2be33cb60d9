/-
  A map of slices of samples that a law makes: m[k] = append(m[k], s). (MgM with its size.)
  m[k] = append(m[k], s), operation by operation.
  BasinParts in memory: single operations at plain places, parts of a row, what stays.
-/
import Derived.Test.YtfnageillhpjpaaPk48
import Derived.Test.YtfnageillhpjpaaPk51
import Derived.Test.YtfnageillhpjpaaPk44
import Derived.WideKeyEntry
import Derived.Maps.AppendAt
import Derived.Test.YtfnageillhpjpaaPk49
import Derived.Test.YtfnageillhpjpaaPk50
import Derived.Test.YtfnageillhpjpaaPk46
import Derived.Maps.RangeWalk
namespace Go.Proofs.Ytfnageillhpjpaa
open Go.RowKit Go.Maps Go.ChangeMaps Go.MapKept
set_option linter.unusedVariables false
set_option maxRecDepth 100000

theorem law16 : WideMaps.KeyLaw Try.prog 47 := deep_law_laid laid16 (m := 3) (by omega) row16 (by kernel_rfl) wide16
theorem zero_sms (w : World) : (zeroValue 25).run Try.prog w = .ok (.slice none 0 0) w := by kernel_rfl
/-- What the map holds: at a name the slice of its samples. -/
structure GmD (D : DataW Value) (f : Kyy → Value) (W : World) (B : Nat) (T : List Tok) (sb : Nat) : Prop where
  av : ∀ k, KyOk k → (f k).ownBlock ≠ some sb
  sz : Maps.size D ≤ T.length
  sq : Maps.size D = (idsT T).length
  hs : ∀ k, KyOk k → Maps.has D (kyL k) = decide (k ∈ T.map (·.1))
  is : ∀ k, KyOk k → k ∈ T.map (·.1) → ∀ z, D.atKey (kyL k) z = .held (f k)
  no : ∀ k, KyOk k → k ∉ T.map (·.1) → f k = .slice none 0 0
  own : ∀ k, KyOk k → EO E6 29 W B (f k) (flK T k)
  ap : ∀ j k, KyOk j → KyOk k → j ≠ k → (f j).ownBlock = none ∨ (f j).ownBlock ≠ (f k).ownBlock
  ok : ∀ k ∈ T.map (·.1), KyOk k
def Gm (W : World) (B m : Nat) (T : List Tok) (sb : Nat) : Prop := ∃ (D : DataW Value) (f : Kyy → Value), W.ownsMap Try.prog 47 hldV m (Maps.size D) D ∧ GmD D f W B T sb
theorem Gm.lt {W : World} {B m sb : Nat} {T : List Tok} (h : Gm W B m T sb) : m < W.heap.size := by obtain ⟨D, f, h1, -⟩ := h; exact h1.lt
theorem Gm.isMap {W : World} {B m sb : Nat} {T : List Tok} (h : Gm W B m T sb) : ∃ es c, W.heap[m]? = some (Obj.map es c) := by obtain ⟨D, f, ⟨es, clock, hb, _⟩, -⟩ := h; exact ⟨es, clock, hb⟩
theorem gm_new (w : World) (B sb : Nat) : Gm (w.alloc (.map #[] 0)) B w.heap.size [] sb :=
  ⟨.map [], fun _ => .slice none 0 0, World.ownsMap_made w _ _ _, ⟨fun _ _ => by simp [Value.ownBlock], Nat.le_refl _, rfl, fun k _ => rfl, fun k _ h => by simp at h, fun _ _ _ => rfl, fun k _ => eo_nil _ _ _ _, fun j k _ _ _ => .inl rfl, fun k h => by simp at h⟩⟩
/-- It stays while nothing of its own turns. -/
theorem Gm.keep {W W' : World} {B m sb : Nat} {T : List Tok} (h : Gm W B m T sb) (hb : Below W.heap.size W W') : Gm W' B m T sb := by
  obtain ⟨D, f, ⟨es, clock, hm, F, hs, hD⟩, hd⟩ := h
  have hlt : m < W.heap.size := (Array.getElem?_eq_some_iff.1 hm).1
  exact ⟨D, f, ⟨es, clock, (hb.block m hlt).trans hm, F, hs, hD⟩, ⟨hd.av, hd.sz, hd.sq, hd.hs, hd.is, hd.no, fun k hk => (hd.own k hk).keep hb, hd.ap, hd.ok⟩⟩
theorem eo_kindM {α : Type} {E : En α} {e : TypeId} {W : World} {B g : Nat} {v : Value} {l : List α} (h : EO E e W B v l) (hg : v.ownBlock = some g) : kindR W g e := own_kindR h hg
theorem flK_snoc (T : List Tok) (x : Tok) (k : Kyy) : flK (T ++ [x]) k = flK T k ++ (if x.1 = k then [x] else []) := by
  unfold flK
  rw [List.filter_append]
  by_cases e : x.1 = k <;> simp [e]
theorem heap_sb {w : World} {m : Nat} {o : Obj} (h : m < w.heap.size) : (setBlock w m o).heap[m]? = some o ∧ ∀ g, g ≠ m → (setBlock w m o).heap[g]? = w.heap[g]? := by
  unfold setBlock
  refine ⟨?_, fun g hg => ?_⟩
  · simp [h]
  · simp [Ne.symm hg]
theorem map_noKind {w : World} {m : Nat} {es : Array MapEntry} {clock : Nat} (h : w.heap[m]? = some (.map es clock)) (t : TypeId) : ¬ kindR w m t := by
  rintro ⟨cur, fr, e⟩
  rw [h] at e
  cases e
/-- The entry's look-up, and its store behind an append. -/
theorem Gm.entry {w : World} {B m sb : Nat} {T : List Tok} {k : Kyy} (h : Gm w B m T sb) (hk : KyOk k) (hl : T.length ≤ 100000) (hsb : sb < w.heap.size) :
    ∃ (v : Value) (st : Nat) (o1 : Obj), (Instr.mapEntry 43 (.map (some m)) (kyV k)).run Try.prog w = .ok (.tuple #[v, goInt st]) (setBlock w m o1) ∧ EO E6 29 (setBlock w m o1) B v (flK T k) ∧ v.ownBlock ≠ some sb ∧ (∃ es c, o1 = Obj.map es c) ∧
      ∀ (w2 : World) (x : Tok) (v' : Value), x.1 = k → w2.heap[m]? = some o1 → (∀ g, kindR w g 29 → some g ≠ v.ownBlock → w2.heap[g]? = w.heap[g]?) → EO E6 29 w2 B v' (flK T k ++ [x]) →
        (v'.ownBlock = v.ownBlock ∨ ∀ g, v'.ownBlock = some g → w.heap.size ≤ g) →
        ∃ o2, (Instr.entryStore 43 (.map (some m)) (goInt st) v').run Try.prog w2 = .ok () (setBlock w2 m o2) ∧ Gm (setBlock w2 m o2) B m (T ++ [x]) sb := by
  obtain ⟨D, f, hown, hd⟩ := h
  have hlt := hown.lt
  have hup := fun (v' : Value) => hown.update (e := 25) (d := .held v') (ps := []) keyed16 Try.underlying43 (by have := hd.sz; unfold maxLen; omega) (key16 hk) (val := v') rfl
  have htidy := hown.tidy keyed16
  obtain ⟨es, clock, hb, F, hs, hD⟩ := hown
  obtain ⟨v0, st, es1, clock1, hrun, hcase, hst⟩ := WideElems.entry_then_store law16 Try.underlying43 (fun u => zero_sms u) hb F (key16 hk)
  have hv : v0 = f k := by
    rcases Maps.fit_look false keyed16 Try.underlying43 (zero_sms w) hb F (key16 hk) with ⟨_, hno, hat⟩ | ⟨e0, y, he0, hek, _, hRv, hat, _⟩
    · have hn : k ∉ T.map (·.1) := by
        intro hm
        have e1 := hd.is k hk hm (.held (.int .i64 0))
        have e2 := hd.is k hk hm (.held (.int .i64 1))
        rw [hD] at e1 e2
        rw [hat] at e1 e2
        rw [← e1] at e2
        cases e2
      rcases hcase with ⟨e1, h1, h2, _⟩ | ⟨_, h2⟩
      · exact absurd h2 (hno e1 h1)
      · rw [h2, hd.no k hk hn]
    · have hy : k ∈ T.map (·.1) := by
        have : Maps.has D (kyL k) = true := has_true_of_atKey (fun z => by rw [hD]; exact hat z)
        rw [hd.hs k hk] at this
        exact of_decide_eq_true this
      have e1 := hd.is k hk hy (.held (.int .i64 0))
      rw [hD, hat] at e1
      have hv0 : e0.val = f k := by
        unfold hldV at hRv
        injection hRv with hRv
        rw [← hRv] at e1
        injection e1
      rcases hcase with ⟨e2, h1, h2, h3⟩ | ⟨h1, _⟩
      · have hn : es.toList.Pairwise (fun x y => x.key ≠ y.key) := ((stamped_iff es clock).1 F.stamped).2.2
        have : e2 = e0 := by
          obtain ⟨i, hi, ei⟩ := List.getElem_of_mem h1
          obtain ⟨j, hj, ej⟩ := List.getElem_of_mem he0
          by_cases c : i = j
          · subst c; rw [← ei, ← ej]
          · exfalso
            rcases Nat.lt_or_gt_of_ne c with c | c
            · exact List.pairwise_iff_getElem.1 hn i j hi hj c (by rw [ei, ej, h2, hek])
            · exact List.pairwise_iff_getElem.1 hn j i hj hi c (by rw [ei, ej, h2, hek])
        rw [h3, this, hv0]
      · exact absurd hek (h1 e0 he0)
  subst hv
  have hEO : ∀ j, KyOk j → EO E6 29 w B (f j) (flK T j) := hd.own
  refine ⟨f k, st, .map es1 clock1, hrun, own_at (hEO k hk) (fun g hg => (heap_sb hlt).2 g (fun e => map_noKind hb _ (e ▸ eo_kindM (hEO k hk) hg))), hd.av k hk, ⟨_, _, rfl⟩, fun w2 x v' hx hw2 hot hown2 hloc => ?_⟩
  have hlt2 : m < w2.heap.size := (Array.getElem?_eq_some_iff.1 hw2).1
  obtain ⟨es', clock', hs1, hs2⟩ := hst w2 v' hw2
  refine ⟨.map es' clock', hs1, ?_⟩
  obtain ⟨w', hr, ho, -⟩ := hup v'
  rw [hs2] at hr
  injection hr with _ hr
  subst hr
  have ho2 := tight16 ho
  obtain ⟨es3, clock3, hb3, F3, hs3, hD3⟩ := ho2
  rw [(heap_sb hlt).1] at hb3
  have hm2 : ∀ j, KyOk j → j ≠ k → EO E6 29 w2 B (f j) (flK T j) := fun j hj hjk => own_at (hEO j hj) (fun g hg => hot g (eo_kindM (hEO j hj) hg) (fun e => by
    rcases hd.ap j k hj hk hjk with h0 | h0
    · rw [hg] at h0; cases h0
    · rw [hg] at h0; exact h0 e))
  have hnk : ∀ t, ¬ kindR w2 m t := fun t => map_noKind hw2 t
  have hput : ∀ {v : Value} {l : List Tok}, EO E6 29 w2 B v l → EO E6 29 (setBlock w2 m (.map es' clock')) B v l := fun {v l} hv => own_at hv (fun g hg => (heap_sb hlt2).2 g (fun e => hnk _ (e ▸ eo_kindM hv hg)))
  refine ⟨D.put (kyL k) (.held v'), fun j => if j = k then v' else f j, ⟨es3, clock3, by rw [(heap_sb hlt2).1]; exact hb3, F3, hs3, hD3⟩, ⟨fun j hj => ?_, ?_, ?_, fun j hj => ?_, fun j hj hjm z => ?_, fun j hj hjm => ?_, fun j hj => ?_, fun i j hi hj hij => ?_, fun j hj => ?_⟩⟩
  · try dsimp only
    by_cases e : j = k
    · rw [if_pos e]
      rcases hloc with h1 | h1
      · rw [h1]; exact hd.av k hk
      · intro h2; have := h1 sb h2; omega
    · rw [if_neg e]; exact hd.av j hj
  · rw [size_put htidy, hd.hs k hk, List.length_append]
    have := hd.sz
    by_cases e : k ∈ T.map (·.1)
    · rw [decide_eq_true e]; simp; omega
    · rw [decide_eq_false e]; simp; omega
  · rw [size_put htidy, hd.hs k hk, idsT_snoc, hx]
    have h1 := hd.sq
    have h2 : k ∈ idsT T ↔ k ∈ T.map (·.1) := by rw [mem_idsT, List.mem_map]
    unfold addK
    by_cases e : k ∈ T.map (·.1)
    · rw [decide_eq_true e, if_pos (h2.2 e)]; simp; omega
    · rw [decide_eq_false e, if_neg (fun h => e (h2.1 h))]; simp; omega
  · by_cases e : j = k
    · subst e
      rw [has_put_same htidy.isMap (kyL_key _)]
      simp [hx]
    · rw [has_put_other (kyL_ne hj hk e), hd.hs j hj, decide_eq_decide, List.map_append, List.mem_append]
      constructor
      · exact .inl
      · rintro (h' | h')
        · exact h'
        · exact absurd ((List.mem_singleton.1 h').trans hx) e
  · by_cases e : j = k
    · subst e
      rw [atKey_put_same htidy.isMap (kyL_key _), if_pos rfl]
    · rw [atKey_put_other (kyL_ne hj hk e), if_neg e]
      refine hd.is j hj ?_ z
      rw [List.map_append, List.mem_append] at hjm
      rcases hjm with h' | h'
      · exact h'
      · exact absurd ((List.mem_singleton.1 h').trans hx) e
  · rw [List.map_append, List.mem_append] at hjm
    have e : j ≠ k := fun e => hjm (.inr (by rw [e, ← hx]; exact List.mem_singleton.2 rfl))
    rw [if_neg e]
    exact hd.no j hj (fun h' => hjm (.inl h'))
  · rw [flK_snoc]
    by_cases e : j = k
    · subst e
      rw [if_pos rfl, if_pos hx]
      exact hput hown2
    · rw [if_neg e, if_neg (fun e2 => e (e2.symm.trans hx)), List.append_nil]
      exact hput (hm2 j hj e)
  · have hfar : ∀ j, KyOk j → j ≠ k → (f j).ownBlock = none ∨ (f j).ownBlock ≠ v'.ownBlock := by
      intro j hj hjk
      cases hg : (f j).ownBlock with
      | none => exact .inl rfl
      | some g =>
        right
        intro e
        rcases hloc with h1 | h1
        · rcases hd.ap j k hj hk hjk with h0 | h0
          · rw [hg] at h0; cases h0
          · exact h0 (by rw [hg, e, h1])
        · have h2 := h1 g e.symm
          have h3 := (World.ownsRow.lt (hEO j hj) g hg).2
          omega
    try dsimp only
    by_cases e : i = k
    · subst e
      rw [if_pos rfl, if_neg (Ne.symm hij)]
      cases hv : v'.ownBlock with
      | none => exact .inl rfl
      | some g =>
        right
        rcases hfar j hj (Ne.symm hij) with h0 | h0
        · rw [h0]; simp
        · rw [← hv]; exact Ne.symm h0
    · rw [if_neg e]
      by_cases e2 : j = k
      · rw [if_pos e2]; exact hfar i hi e
      · rw [if_neg e2]; exact hd.ap i j hi hj hij
  · rw [List.map_append, List.mem_append] at hj
    rcases hj with h' | h'
    · exact hd.ok j h'
    · rw [List.mem_singleton.1 h']
      show KyOk x.1
      rw [hx]; exact hk
theorem Gm.avoid {W : World} {B m sb s : Nat} {T : List Tok} (h : Gm W B m T sb) (hs : W.heap.size ≤ s) : Gm W B m T s := by
  obtain ⟨D, f, h1, hd⟩ := h
  exact ⟨D, f, h1, ⟨fun k hk e => by have := (World.ownsRow.lt (hd.own k hk) s e).2; omega, hd.sz, hd.sq, hd.hs, hd.is, hd.no, hd.own, hd.ap, hd.ok⟩⟩
theorem Gm.low {W : World} {B m sb s : Nat} {T : List Tok} (h : Gm W B m T sb) (hs : s < B) : Gm W B m T s := by
  obtain ⟨D, f, h1, hd⟩ := h
  exact ⟨D, f, h1, ⟨fun k hk e => by have := (World.ownsRow.lt (hd.own k hk) s e).1; omega, hd.sz, hd.sq, hd.hs, hd.is, hd.no, hd.own, hd.ap, hd.ok⟩⟩
end Go.Proofs.Ytfnageillhpjpaa
namespace Go.Proofs.Ytfnageillhpjpaa
open Go.RowKit Go.Maps Go.ChangeMaps Go.MapKept
set_option linter.unusedVariables false
set_option maxRecDepth 100000

theorem chg_sb {w : World} {m : Nat} {o : Obj} (h : m < w.heap.size) : Chg m w (setBlock w m o) := ⟨rfl, rfl, rfl, by unfold setBlock; simp, (heap_sb h).2⟩
/-- What a store may lean on: what was done since the look-up. -/
def BackG (w : World) (B m : Nat) (T : List Tok) (sb : Nat) (k : Kyy) (v : Value) (st : Nat) (o1 : Obj) : Prop :=
  ∀ (w2 : World) (x : Tok) (v' : Value), x.1 = k → w2.heap[m]? = some o1 → (∀ g, kindR w g 29 → some g ≠ v.ownBlock → w2.heap[g]? = w.heap[g]?) → EO E6 29 w2 B v' (flK T k ++ [x]) →
    (v'.ownBlock = v.ownBlock ∨ ∀ g, v'.ownBlock = some g → w.heap.size ≤ g) →
    ∃ o2, (Instr.entryStore 43 (.map (some m)) (goInt st) v').run Try.prog w2 = .ok () (setBlock w2 m o2) ∧ Gm (setBlock w2 m o2) B m (T ++ [x]) sb
section
variable {ops : Array Oper} {rest : List Oper} {o : Oper} {a : Act} {w : World} {Q : Exit → Act → World → Prop}
theorem me_run (hgd : o.guard = none) {x y : Operand} (ho : o.op = .mapEntry 43 x y) {B m sb : Nat} {T : List Tok} {k : Kyy} (hx : a.eval x = .map (some m)) (hy : a.eval y = kyV k) (hG : Gm w B m T sb) (hk : KyOk k) (hl : T.length ≤ 100000) (hsb : sb < w.heap.size)
    (h : ∀ v st o1 W', EO E6 29 W' B v (flK T k) → v.ownBlock ≠ some sb → Chg m w W' → W'.heap[m]? = some o1 → (∃ es c, o1 = Obj.map es c) → BackG w B m T sb k v st o1 → wpList Try.prog ops Q rest (a.put o.dst (.tuple #[v, goInt st])) W') : wpList Try.prog ops Q (o :: rest) a w := by
  obtain ⟨v, st, o1, hrun, hO, hne, ho1, hB⟩ := hG.entry hk hl hsb
  refine wpList_plain hgd fun K hK => ?_
  unfold Oper.wp execOp
  simp only [ho, hx, hy, Sem.run_bind, hrun, Result.andThen_ok]
  exact hK _ _ (h v st o1 _ hO hne (chg_sb hG.lt) (heap_sb hG.lt).1 ho1 hB)
theorem es_run (hgd : o.guard = none) {x y z : Operand} (ho : o.op = .entryStore 43 x y z) {B m sb : Nat} {T : List Tok} {k : Kyy} {w0 : World} {v v' : Value} {st : Nat} {o1 : Obj} {s : Tok} (hx : a.eval x = .map (some m)) (hy : a.eval y = goInt st) (hz : a.eval z = v')
    (hB : BackG w0 B m T sb k v st o1) (hs : s.1 = k) (hm : w.heap[m]? = some o1) (hot : ∀ g, kindR w0 g 29 → some g ≠ v.ownBlock → w.heap[g]? = w0.heap[g]?) (hO : EO E6 29 w B v' (flK T k ++ [s]))
    (hloc : v'.ownBlock = v.ownBlock ∨ ∀ g, v'.ownBlock = some g → w0.heap.size ≤ g)
    (h : ∀ W', Gm W' B m (T ++ [s]) sb → Chg m w W' → wpList Try.prog ops Q rest (a.put o.dst undef) W') : wpList Try.prog ops Q (o :: rest) a w := by
  obtain ⟨o2, hrun, hG⟩ := hB w s v' hs hm hot hO hloc
  refine wpList_plain hgd fun K hK => ?_
  unfold Oper.wp execOp
  simp only [ho, hx, hy, hz, Sem.run_bind, hrun, Result.andThen_ok]
  exact hK _ _ (h _ hG (chg_sb (Array.getElem?_eq_some_iff.1 hm).1))
/-- 'append' of one sample, and where the new slice lies. -/
theorem app_at (hgd : o.guard = none) {s x : Operand} (ho : o.op = .call { callee := .builtin .append, args := #[s, x], argTypes := #[25, 25] }) {B : Nat} {v vx : Value} {l : List Tok} {t : Tok}
    (hs : a.eval s = v) (hO : EO E6 29 w B v l) (hx : a.eval x = vx) (hsl : ER E6 w vx [t]) (hl : l.length ≤ 100000) (hB : B ≤ w.heap.size)
    (h : ∀ v' W', EO E6 29 W' B v' (l ++ [t]) → w.grownBy W' v.ownBlock → (v'.ownBlock = v.ownBlock ∨ v'.ownBlock = some w.heap.size) → wpList Try.prog ops Q rest (a.put o.dst v') W') : wpList Try.prog ops Q (o :: rest) a w := by
  obtain ⟨i, hi, hz0, hz1, hz2⟩ := info_parts infoSm
  obtain ⟨q, cap, rfl, hq, hsrc⟩ := hsl.src
  cases q with
  | none => exact absurd (hq rfl) (by simp)
  | some ad =>
    refine wpList_append_own_at w hgd s x _ ho B _ i _ 6 48 Try.underlying25 hi hz0 hz1 hz2 rfl (by omega) v l.length (E6.fl l) hs hO ad 1 cap (E6.fl [t]) hx (E6.fl_len [t])
      (hsrc ad rfl) (E6.fl_cell [t]) (by unfold maxLen; omega) (by omega) hB (fun v' W' h1 h2 _ h4 => h v' W' ?_ h2 h4)
    rw [← E6.fl_append] at h1
    exact eo_of h1
/-- What stands behind the append. -/
theorem back_ok {W1 W2 : World} {m B : Nat} {v : Value} {l : List Tok} {o1 : Obj} (hGm : ∃ es c, w.heap[m]? = some (Obj.map es c)) (hC : Chg m w W1) (hm1 : W1.heap[m]? = some o1) (ho1 : ∃ es c, o1 = Obj.map es c) (hv : EO E6 29 W1 B v l) (hg : W1.grownBy W2 v.ownBlock) :
    W2.heap[m]? = some o1 ∧ ∀ g, kindR w g 29 → some g ≠ v.ownBlock → W2.heap[g]? = w.heap[g]? := by
  obtain ⟨es, c, e1⟩ := hGm
  obtain ⟨es', c', e2⟩ := ho1
  refine ⟨?_, fun g hk hne => ?_⟩
  · have hlt : m < W1.heap.size := (Array.getElem?_eq_some_iff.1 hm1).1
    rw [hg.block m hlt (fun e => map_noKind (by rw [hm1, e2]) 29 (eo_kindM hv e.symm)), hm1]
  · have hgm : g ≠ m := fun e => map_noKind e1 _ (e ▸ hk)
    have hlt : g < w.heap.size := by obtain ⟨cur, fr, e⟩ := hk; exact (Array.getElem?_eq_some_iff.1 e).1
    rw [hg.block g (by rw [hC.size]; exact hlt) hne, hC.other g hgm]
end
end Go.Proofs.Ytfnageillhpjpaa
namespace Go.Proofs.Ytfnageillhpjpaa
open Go.RowKit Go.Maps Go.ChangeMaps Go.MapKept
set_option linter.unusedVariables false
set_option maxRecDepth 100000

theorem want_none {o : Oper} {f : Nat → Option Bool} (h : o.guard = none) : Region.wanted o f = true := by unfold Region.wanted; rw [h]
theorem and_oneB (x : Int) : IntKind.i64.wrap ((BitVec.ofInt 64 x &&& BitVec.ofInt 64 1).toNat : Int) = x % 2 := by
  have h1 : (BitVec.ofInt 64 x &&& BitVec.ofInt 64 1).toNat = (x % 18446744073709551616).toNat % 2 := by
    rw [BitVec.toNat_and, BitVec.toNat_ofInt, show (BitVec.ofInt 64 1).toNat = 1 by decide, Nat.and_one_is_mod]
    rfl
  rw [h1, IntKind.wrap_i64]
  omega
theorem and1_operB {P : Program} {o : Oper} {ρ : Operand → Value} {x y : Operand} {t t' : TypeId} {k : Int} (ho : o.op = .binOp .and t x y t') (hx : ρ x = .int .i64 k) (hy : ρ y = .int .i64 1) (w : World) : (execOp ρ o).run P w = .ok (.value (.int .i64 (k % 2))) w := by
  unfold execOp
  simp only [ho, hx, hy]
  rw [← and_oneB k]
  rfl
section
variable {ops : Array Oper} {rest : List Oper} {o : Oper} {a : Act} {w : World} {Q : Exit → Act → World → Prop}
theorem valPlB (hgd : o.guard = none) (v : Value) (hr : (execOp a.eval o).run Try.prog w = .ok (.value v) w) (h : wpList Try.prog ops Q rest (a.put o.dst v) w) : wpList Try.prog ops Q (o :: rest) a w :=
  wpList_plain hgd fun K hK => by
    unfold Oper.wp
    rw [hr, Oper.upon_value]
    exact hK _ _ h
theorem st_intB (hgd : o.guard = none) {x y : Operand} (ho : o.op = .store 3 x y) {b i : Nat} {vs : Array Value} {t : TypeId} {n : Int} {old : Value} (hB : Blk w b vs t)
    (hx : a.eval x = .pointer (some ⟨b, i, none⟩)) (hy : a.eval y = .int .i64 n) (hi : vs[i]? = some old)
    (h : ∀ W', Blk W' b (vs.setIfInBounds i (.int .i64 n)) t → Chg b w W' → wpList Try.prog ops Q rest (a.put o.dst undef) W') : wpList Try.prog ops Q (o :: rest) a w :=
  wpList_plain hgd fun K hK => stI o.dst rfl ho hB hx hy hi (fun W' h1 h2 => hK _ _ (h W' h1 h2))
theorem bs_pl0 {α : Type} {E : En α} (hgd : o.guard = none) {t e : TypeId} {parts : Array (Nat × Operand)} (ho : o.op = .buildSlice t 0 parts) (hl : parts.map (fun (i, x) => (i, a.eval x)) = #[])
    (hrun : ∀ w : World, (Instr.buildSlice t 0 #[]).run Try.prog w = .ok (.slice (some ⟨w.heap.size, 0, none⟩) 0 0) (w.alloc (.cells #[] e)))
    (h : ∀ W', EO E e W' w.heap.size (.slice (some ⟨w.heap.size, 0, none⟩) 0 0) [] → Below w.heap.size w W' → wpList Try.prog ops Q rest (a.put o.dst (.slice (some ⟨w.heap.size, 0, none⟩) 0 0)) W') : wpList Try.prog ops Q (o :: rest) a w :=
  wpList_plain hgd fun K hK => by
    unfold Oper.wp execOp
    simp only [ho, Sem.run_bind, hl, hrun, Result.andThen_ok]
    exact hK _ _ (h _ (eo_of (n := 0) (own_blkE (xs := []) (Blk.new _ _ _) (Nat.le_refl _) (by simp) (by unfold maxLen; omega))) ((Below.refl _ _).alloc (Nat.le_refl _) _))
theorem bs_smpB (hgd : o.guard = none) {parts : Array (Nat × Operand)} (ho : o.op = .buildSlice 25 1 parts) (x : Tok) (hl : parts.map (fun (i, x) => (i, a.eval x)) = #[(0, .agg (smA x))])
    (h : ∀ W', EO E6 29 W' w.heap.size (.slice (some ⟨w.heap.size, 0, none⟩) 1 1) [x] → Below w.heap.size w W' → wpList Try.prog ops Q rest (a.put o.dst (.slice (some ⟨w.heap.size, 0, none⟩) 1 1)) W') : wpList Try.prog ops Q (o :: rest) a w :=
  wpList_plain hgd fun K hK => bsEW (E := E6) o.dst rfl ho x hl (fun w => bs_sm1 x w) (fun W' h1 h2 => hK _ _ (h W' h1 h2))
theorem bs_opB (hgd : o.guard = none) {parts : Array (Nat × Operand)} (ho : o.op = .buildSlice 22 1 parts) (x : Op5) (hl : parts.map (fun (i, x) => (i, a.eval x)) = #[(0, .agg (opA x))])
    (h : ∀ W', EO E5 27 W' w.heap.size (.slice (some ⟨w.heap.size, 0, none⟩) 1 1) [x] → Below w.heap.size w W' → wpList Try.prog ops Q rest (a.put o.dst (.slice (some ⟨w.heap.size, 0, none⟩) 1 1)) W') : wpList Try.prog ops Q (o :: rest) a w :=
  wpList_plain hgd fun K hK => bsEW (E := E5) o.dst rfl ho x hl (fun w => bs_op1 x w) (fun W' h1 h2 => hK _ _ (h W' h1 h2))
/-- A place into a row of places that is the call's own. -/
theorem st_plB (hgd : o.guard = none) {x y : Operand} (ho : o.op = .store 38 x y) {g cap i off : Nat} {L : List (Int × Int)} (h : Rw E2 38 w g cap L) (hi : i < L.length) (c : Int × Int) (hoff : off = i * 2) (hx : a.eval x = .pointer (some ⟨g, off, none⟩)) (hy : a.eval y = Plc c.1 c.2)
    (hK : ∀ W', Rw E2 38 W' g cap (L.set i c) → Chg g w W' → wpList Try.prog ops Q rest (a.put o.dst undef) W') : wpList Try.prog ops Q (o :: rest) a w :=
  wpList_plain hgd fun K hKK => stEW (E := E2) o.dst rfl ho h hi c #[.int .i64 c.1, .int .i64 c.2] rfl hoff hx hy info_plc (fun W' h1 h2 => hKK _ _ (hK W' h1 h2))
end
theorem er_cell5 {W : World} {g n cap : Nat} {l : List Op5} (h : ER E5 W (.slice (some ⟨g, 0, none⟩) n cap) l) {j : Nat} {o : Op5} (hj : l[j]? = some o) {i : Nat} {u : Value} (hu : (E5.f o)[i]? = some u) : W.cell? ⟨g, j * 5 + i, none⟩ = some u := by
  obtain ⟨q', c', g', o', e, h1, h2, h3, h4⟩ := h.at
  injection e with e1 e2 e3
  obtain ⟨e4, -⟩ := h3 (by have := (List.getElem?_eq_some_iff.1 hj).1; omega)
  rw [← e1] at e4
  injection e4 with e4
  injection e4 with e5 e6
  have := h4 j o hj i u hu
  rw [← e5, ← e6, Nat.zero_add] at this
  exact this
theorem eo_chgP {α : Type} {E : En α} {e : TypeId} {W W' : World} {B g cap : Nat} {v : Value} {l : List α} {L : List (Int × Int)} (h : EO E e W B v l) (hR : Rw E2 38 W g cap L) (hne : e ≠ 38) (C : Chg g W W') : EO E e W' B v l :=
  own_at h fun k hk => C.other k (fun e1 => hne ((eo_kindM h hk).uniq (e1 ▸ rw_kind hR)))
theorem eo_frmB {α : Type} {E : En α} {e : TypeId} {W W' : World} {B : Nat} {v : Value} {l : List α} {X : Nat → Prop} (h : EO E e W B v l) (hf : Frm X W W') (hx : ∀ k, v.ownBlock = some k → ¬ X k) : EO E e W' B v l :=
  own_at h fun k hk => hf.other k (World.ownsRow.lt h k hk).2 (hx k hk)
theorem eo_keptB {α β : Type} {E : En α} {F : En β} {e f : TypeId} {W W' : World} {B C : Nat} {v u : Value} {l : List α} {m : List β} (h : EO E e W B v l) (k : EO F f W C u m) (hne : e ≠ f) (hg : W.grownBy W' u.ownBlock) : EO E e W' B v l :=
  own_at h (fun g he => hg.block g (World.ownsRow.lt h g he).2 (fun e1 => hne ((eo_kindM h he).uniq (eo_kindM k e1.symm))))
theorem blk_keptB {β : Type} {F : En β} {t f : TypeId} {W W' : World} {C b : Nat} {vs : Array Value} {u : Value} {m : List β} (h : Blk W b vs t) (k : EO F f W C u m) (hne : t ≠ f) (hg : W.grownBy W' u.ownBlock) : Blk W' b vs t := by
  unfold Blk
  rw [hg.block b h.lt (fun e1 => hne (h.kindR.uniq (eo_kindM k e1.symm)))]
  exact h
theorem bs_op0B (w : World) : (Instr.buildSlice 22 0 #[]).run Try.prog w = .ok (.slice (some ⟨w.heap.size, 0, none⟩) 0 0) (w.alloc (.cells #[] 27)) := by kernel_rfl
theorem bs_sm0B (w : World) : (Instr.buildSlice 25 0 #[]).run Try.prog w = .ok (.slice (some ⟨w.heap.size, 0, none⟩) 0 0) (w.alloc (.cells #[] 29)) := by kernel_rfl
theorem built_smpB (o : Op5) : Try.prog.built 29 [(0, .int .i64 1), (1, .agg #[.int .i64 o.s, .int .i64 o.k, .int .i64 o.t, .int .i64 o.y, .int .i64 o.v])] = some #[.int .i64 1, .int .i64 o.s, .int .i64 o.k, .int .i64 o.t, .int .i64 o.y, .int .i64 o.v] := by kernel_rfl
theorem zero_idB (w : World) : (zeroValue 47).run Try.prog w = .ok (.agg #[.int .i64 0, .int .i64 0, .int .i64 0]) w := by kernel_rfl
theorem info_idB (k : Kyy) : (Try.prog.info? 47).map (·.size) = some (#[.int .i64 k.1, .int .i64 k.2.1, .int .i64 k.2.2] : Array Value).size := by kernel_rfl
theorem zero_smB (w : World) : (zeroValue 29).run Try.prog w = .ok (.agg #[.int .i64 0, .int .i64 0, .int .i64 0, .int .i64 0, .int .i64 0, .int .i64 0]) w := by kernel_rfl
theorem info_smB (x : Tok) : (Try.prog.info? 29).map (·.size) = some (smA x).size := by kernel_rfl
theorem mod_natB (x : Int) (n : Int) (h0 : 0 < n) (h1 : n ≤ 4096) : ∃ k : Nat, (k : Int) < n ∧ wrap64 ((IntKind.u64.wrap x).tmod n) = (k : Int) := by
  have hx : 0 ≤ IntKind.u64.wrap x := by rw [IntKind.wrap_u64]; omega
  have he : (IntKind.u64.wrap x).tmod n = IntKind.u64.wrap x % n := Int.tmod_eq_emod_of_nonneg hx
  have h2 := Int.emod_nonneg (IntKind.u64.wrap x) (show n ≠ 0 by omega)
  have h3 := Int.emod_lt_of_pos (IntKind.u64.wrap x) h0
  refine ⟨(IntKind.u64.wrap x % n).toNat, by omega, ?_⟩
  rw [he, Int.toNat_of_nonneg h2]
  generalize IntKind.u64.wrap x % n = r at *
  unfold wrap64
  omega
theorem op_zeroB (w : World) : (zeroValue 27).run Try.prog w = .ok (.agg (opA ⟨0, 0, 0, 0, 0⟩)) w := by kernel_rfl
theorem infoO5B (o : Op5) : (Try.prog.info? 27).map (·.size) = some (opA o).size := by kernel_rfl
theorem opA_oneB (o : Op5) : (opA o).all (·.oneCell') = true := by rw [← Array.all_toList]; exact List.all_eq_true.2 (E5.one o)
theorem rep_set {α : Type} (a b : α) {k c : Nat} (h : k < c) : (List.replicate k a ++ List.replicate (c - k) b).set k a = List.replicate (k + 1) a ++ List.replicate (c - (k + 1)) b := by
  apply List.ext_getElem?
  intro i
  rw [List.getElem?_set]
  simp only [List.length_append, List.length_replicate, List.getElem?_append, List.getElem?_replicate]
  by_cases e : k = i
  · subst e
    simp
    omega
  · rw [if_neg e]
    by_cases c1 : i < k
    · simp [c1, show i < k + 1 by omega]
    · simp only [if_neg c1, if_neg (show ¬ i < k + 1 by omega)]
      by_cases c2 : i < c
      · rw [if_pos (by omega), if_pos (by omega)]
      · rw [if_neg (by omega), if_neg (by omega)]
theorem eltOpB : Try.prog.underlying 22 = some (.slice (Try.prog.elem 22)) := by kernel_rfl
theorem sizeOpB (w : World) : (sizeOf (Try.prog.elem 22)).run Try.prog w = .ok 5 w := by kernel_rfl
theorem sl_op {o : Oper} {w : World} {ρ : Operand → Value} {x y z : Operand} (ho : o.op = .slice 22 x (some y) (some z) none) {q : Option Addr} {n cap i j : Nat} (hx : ρ x = .slice q n cap) (hy : ρ y = .int .i64 (i : Int)) (hz : ρ z = .int .i64 (j : Int)) (h1 : i ≤ j) (h2 : j ≤ cap) :
    (execOp ρ o).run Try.prog w = .ok (.value (sliced q i j cap 5)) w := by
  unfold execOp
  simp only [ho, hx, hy, hz, Option.map_some, Option.map_none, Sem.run_bind, run_sliceAt_slice w 22 _ _ _ _ eltOpB, run_slice_lh w 22 q n cap eltOpB _ _ (i : Int) (j : Int) (by omega) (by omega) (by omega), sizeOpB, Result.andThen_ok, Sem.run_pure, Int.toNat_natCast]
theorem sl_opE {o : Oper} {w : World} {ρ : Operand → Value} {x y z : Operand} {q : Option Addr} {n cap i j : Nat} {v : Value} (e : sliced q i j cap 5 = v) (h1 : i ≤ j) (h2 : j ≤ cap) (ho : o.op = .slice 22 x (some y) (some z) none) (hx : ρ x = .slice q n cap) (hy : ρ y = .int .i64 (i : Int)) (hz : ρ z = .int .i64 (j : Int)) :
    (execOp ρ o).run Try.prog w = .ok (.value v) w := by
  rw [← e]
  exact sl_op ho hx hy hz h1 h2
theorem er_dropB {α : Type} {E : En α} {W : World} {q : Option Addr} {n cap : Nat} {l : List α} (h : ER E W (.slice q n cap) l) {i : Nat} (hi : i ≤ n) : ER E W (sliced q i n cap E.k) (l.drop i) := by
  obtain ⟨q', cap', g, off, h1, h2, h3, h4, h5⟩ := h
  cases h1
  unfold sliced
  by_cases c : cap = i
  · have hl : l.length = i := by omega
    rw [if_pos c, List.drop_of_length_le (by omega)]
    refine ⟨_, _, 0, 0, by rw [show l.length - i = 0 by omega]; rfl, by simp, by omega, fun h => absurd h (by simp), fun j u hu => ?_⟩
    simp [En.fl] at hu
  · rw [if_neg c]
    refine ⟨_, _, g, off + i * E.k, by rw [List.length_drop], by rw [List.length_drop]; omega, by omega, fun h => ?_, fun j u hu => ?_⟩
    · rw [List.length_drop] at h
      obtain ⟨rfl, hg⟩ := h4 (by omega)
      refine ⟨?_, hg⟩
      rw [Option.map_some, Addr.add_mid]
    · rw [← E.fl_drop, List.getElem?_drop] at hu
      rw [Nat.add_assoc]
      exact h5 _ u hu
theorem er_takeB {α : Type} {E : En α} {W : World} {q : Option Addr} {n cap : Nat} {l : List α} (h : ER E W (.slice q n cap) l) {m c : Nat} (hm : m ≤ l.length) (hc : m ≤ c) (hcm : c ≤ 9223372036854775807) : ER E W (.slice q m c) (l.take m) := by
  obtain ⟨q', cap', g, off, h1, h2, h3, h4, h5⟩ := h
  injection h1 with e1 e2 e3
  subst e1
  refine ⟨_, _, g, off, by rw [List.length_take, Nat.min_eq_left hm], by rw [List.length_take, Nat.min_eq_left hm]; exact hc, hcm, fun h => ?_, fun j u hu => ?_⟩
  · rw [List.length_take] at h
    exact h4 (by omega)
  · rw [← E.fl_take] at hu
    have hj := (List.getElem?_eq_some_iff.1 hu).1
    rw [List.length_take] at hj
    rw [List.getElem?_take_of_lt (by omega)] at hu
    exact h5 j u hu
/-- Part of an own row: where it lies. -/
theorem er_part {W : World} {g n cap i j : Nat} {l : List Op5} (h : ER E5 W (.slice (some ⟨g, 0, none⟩) n cap) l) (hij : i < j) (hjn : j ≤ n) (hn : l.length = n) (hc : n ≤ cap) (hcm : cap ≤ 9223372036854775807) :
    ∃ o', sliced (some ⟨g, 0, none⟩) i j cap 5 = .slice (some ⟨g, o', none⟩) (j - i) (cap - i) ∧ ER E5 W (.slice (some ⟨g, o', none⟩) (j - i) (cap - i)) ((l.take j).drop i) := by
  obtain ⟨o1, e1, p1⟩ := sliced_some g 0 i j cap 5
  obtain ⟨o2, e2, p2⟩ := sliced_some g 0 i n cap 5
  have h1 := p1 (by omega)
  have h2 := p2 (by omega)
  have hd := er_dropB h (i := i) (by omega)
  rw [show E5.k = 5 from rfl, e2] at hd
  have ht := er_takeB hd (m := j - i) (c := cap - i) (by rw [List.length_drop]; omega) (by omega) (by omega)
  rw [h2, ← h1] at ht
  refine ⟨o1, e1, ?_⟩
  rw [List.drop_take]
  exact ht
theorem ranges_keepB {D : DataW Value} {W W' : World} {m r n cnt : Nat} {left : Lit → Bool} (h : W.ranges Try.prog 47 hldV m r n D left cnt) (hb : Below W.heap.size W W') : W'.ranges Try.prog 47 hldV m r n D left cnt := by
  obtain ⟨es, clock, since, seen, c0, h1, h2, h3, h4, h5, h6⟩ := h
  have l1 : m < W.heap.size := (Array.getElem?_eq_some_iff.1 h1).1
  have l2 : r < W.heap.size := (Array.getElem?_eq_some_iff.1 h5).1
  exact ⟨es, clock, since, seen, c0, (hb.block _ l1).trans h1, h2, h3, h4, (hb.block _ l2).trans h5, h6⟩
theorem cneqB_run (c d : Nat → Int) (w : World) : (binOp .neq 54 (.agg (CA c)) (.agg (CA d))).run Try.prog w = .ok (.bool (!eqC c d)) w := by
  have h := eq_cell c d w
  rw [run_eql_struct] at h
  rw [run_neq_struct]
  generalize (Op.equalIn 10000 54 (.agg (CA c)) (.agg (CA d))).run Try.prog w = R at *
  cases R <;> simp_all [Result.andThen]
theorem cneqB {o : Oper} {ρ : Operand → Value} {x y : Operand} {t' : TypeId} {c d : Nat → Int} (ho : o.op = .binOp .neq 54 x y t') (hx : ρ x = .agg (CA c)) (hy : ρ y = .agg (CA d)) (he : eqC c d = true) (w : World) :
    (execOp ρ o).run Try.prog w = .ok (.value (.bool false)) w := by
  unfold execOp
  simp only [ho, hx, hy, Sem.run_bind, eq_guard, cneqB_run, he, Result.andThen_ok, Sem.run_pure, Bool.not_true]
theorem bp_of {w : World} {B : Nat} {v : Value} {T : List Tok} {k : Kyy} (hO : EO E6 29 w B v (flK T k)) (hf : ∀ x ∈ T, FitT x) (hn : T.length ≤ 2000) :
    Calls Try.prog 11 #[v] w fun e w' => e = .returned (.agg (CA (JL (smK T k)))) ∧ Below w.heap.size w w' := by
  obtain ⟨q', cp, g', o', rfl, hp', hg', hrow⟩ := srow_E6 hO.er (fun x hx => hf x (List.mem_filter.1 hx).1)
  exact rcof_any q' g' o' (flK T k).length cp ((flK T k).map tkF) w (by rw [List.length_map]) (by have := flK_len T k; omega) hp' hg' hrow (wf_sm hf)
/-- The basin stays while what is younger turns. -/
theorem bq_chg {W W' : World} {B N g : Nat} {K : Bkk} {S : Bsn} (h : Bq W B K S) (hk : ∀ k, bkB K k → k < N) (hb : K.b < N) (hr : ∀ k, K.vr.ownBlock = some k → k < N) (C : Chg g W W') (hg : N ≤ g) : Bq W' B K S :=
  ⟨h.blk.frm (frm_chg (X := fun k => k = g) C rfl) (fun e => by omega), h.ge, own_at h.re (fun k hk' => C.other k (fun e => by have := hr k hk'; omega)), rw_at h.fe (C.other _ (fun e => by have := hk _ (.inl rfl); omega)), h.gef, rw_at h.be (C.other _ (fun e => by have := hk _ (.inr (.inl rfl)); omega)), h.geb,
    h.ce.frm (frm_chg (X := fun k => k = g) C rfl) (fun e => by have := hk _ (.inr (.inr rfl)); omega), h.gem, h.ok⟩
end Go.Proofs.Ytfnageillhpjpaa
