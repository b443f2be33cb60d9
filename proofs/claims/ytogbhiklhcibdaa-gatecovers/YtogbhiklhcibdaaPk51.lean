/-
  A map of slices of samples that a law makes: m[k] = append(m[k], s).
  m[k] = append(m[k], s), operation by operation.
-/
import Derived.Test.YtogbhiklhcibdaaPk49
import Derived.Test.YtogbhiklhcibdaaPk43
import Derived.WideKeyEntry
import Derived.Maps.AppendAt
namespace Go.Proofs.Ytogbhiklhcibdaa
open Go.RowKit Go.Maps Go.ChangeMaps Go.MapKept
set_option linter.unusedVariables false
set_option maxRecDepth 100000

theorem law16 : WideMaps.KeyLaw Try.prog 40 := deep_law_laid laid16 (m := 3) (by omega) row16 (by kernel_rfl) wide16
theorem zero_sms (w : World) : (zeroValue 41).run Try.prog w = .ok (.slice none 0 0) w := by kernel_rfl
/-- What the map holds: at a name the slice of its samples. -/
structure GmD (D : DataW Value) (f : Kyy → Value) (W : World) (B : Nat) (T : List Tok) : Prop where
  sz : Maps.size D ≤ T.length
  hs : ∀ k, KyOk k → Maps.has D (kyL k) = decide (k ∈ T.map (·.1))
  is : ∀ k, KyOk k → k ∈ T.map (·.1) → ∀ z, D.atKey (kyL k) z = .held (f k)
  no : ∀ k, KyOk k → k ∉ T.map (·.1) → f k = .slice none 0 0
  own : ∀ k, KyOk k → EO E6 43 W B (f k) (flK T k)
  ap : ∀ j k, KyOk j → KyOk k → j ≠ k → (f j).ownBlock = none ∨ (f j).ownBlock ≠ (f k).ownBlock
  ok : ∀ k ∈ T.map (·.1), KyOk k
def Gm (W : World) (B m : Nat) (T : List Tok) : Prop := ∃ (D : DataW Value) (f : Kyy → Value), W.ownsMap Try.prog 40 hldV m (Maps.size D) D ∧ GmD D f W B T
theorem Gm.lt {W : World} {B m : Nat} {T : List Tok} (h : Gm W B m T) : m < W.heap.size := by obtain ⟨D, f, h1, -⟩ := h; exact h1.lt
theorem Gm.isMap {W : World} {B m : Nat} {T : List Tok} (h : Gm W B m T) : ∃ es c, W.heap[m]? = some (Obj.map es c) := by obtain ⟨D, f, ⟨es, clock, hb, _⟩, -⟩ := h; exact ⟨es, clock, hb⟩
theorem gm_new (w : World) (B : Nat) : Gm (w.alloc (.map #[] 0)) B w.heap.size [] :=
  ⟨.map [], fun _ => .slice none 0 0, World.ownsMap_made w _ _ _, ⟨Nat.le_refl _, fun k _ => rfl, fun k _ h => by simp at h, fun _ _ _ => rfl, fun k _ => eo_nil _ _ _ _, fun j k _ _ _ => .inl rfl, fun k h => by simp at h⟩⟩
/-- It stays while nothing of its own turns. -/
theorem Gm.keep {W W' : World} {B m : Nat} {T : List Tok} (h : Gm W B m T) (hb : Below W.heap.size W W') : Gm W' B m T := by
  obtain ⟨D, f, ⟨es, clock, hm, F, hs, hD⟩, hd⟩ := h
  have hlt : m < W.heap.size := (Array.getElem?_eq_some_iff.1 hm).1
  exact ⟨D, f, ⟨es, clock, (hb.block m hlt).trans hm, F, hs, hD⟩, ⟨hd.sz, hd.hs, hd.is, hd.no, fun k hk => (hd.own k hk).keep hb, hd.ap, hd.ok⟩⟩
theorem eo_kindM {α : Type} {E : En α} {e : TypeId} {W : World} {B g : Nat} {v : Value} {l : List α} (h : EO E e W B v l) (hg : v.ownBlock = some g) : kindR W g e := own_kindR h hg
theorem flK_snoc (T : List Tok) (x : Tok) (k : Kyy) : flK (T ++ [x]) k = flK T k ++ (if x.1 = k then [x] else []) := by
  unfold flK
  rw [List.filter_append]
  by_cases e : x.1 = k <;> simp [e]
theorem heap_sb {w : World} {m : Nat} {o : Obj} (h : m < w.heap.size) : (setBlock w m o).heap[m]? = some o ∧ ∀ g, g ≠ m → (setBlock w m o).heap[g]? = w.heap[g]? := by
  unfold setBlock
  refine ⟨?_, fun g hg => ?_⟩
  · simp [h]
  · simp [Ne.symm hg]
theorem map_noKind {w : World} {m : Nat} {es : Array MapEntry} {clock : Nat} (h : w.heap[m]? = some (.map es clock)) (t : TypeId) : ¬ kindR w m t := by
  rintro ⟨cur, fr, e⟩
  rw [h] at e
  cases e
/-- The entry's look-up, and its store behind an append. -/
theorem Gm.entry {w : World} {B m : Nat} {T : List Tok} {k : Kyy} (h : Gm w B m T) (hk : KyOk k) (hl : T.length ≤ 100000) :
    ∃ (v : Value) (st : Nat) (o1 : Obj), (Instr.mapEntry 33 (.map (some m)) (kyV k)).run Try.prog w = .ok (.tuple #[v, goInt st]) (setBlock w m o1) ∧ EO E6 43 (setBlock w m o1) B v (flK T k) ∧ (∃ es c, o1 = Obj.map es c) ∧
      ∀ (w2 : World) (x : Tok) (v' : Value), x.1 = k → w2.heap[m]? = some o1 → (∀ g, kindR w g 43 → some g ≠ v.ownBlock → w2.heap[g]? = w.heap[g]?) → EO E6 43 w2 B v' (flK T k ++ [x]) →
        (v'.ownBlock = v.ownBlock ∨ ∀ g, v'.ownBlock = some g → w.heap.size ≤ g) →
        ∃ o2, (Instr.entryStore 33 (.map (some m)) (goInt st) v').run Try.prog w2 = .ok () (setBlock w2 m o2) ∧ Gm (setBlock w2 m o2) B m (T ++ [x]) := by
  obtain ⟨D, f, hown, hd⟩ := h
  have hlt := hown.lt
  have hup := fun (v' : Value) => hown.update (e := 41) (d := .held v') (ps := []) keyed16 Try.underlying33 (by have := hd.sz; unfold maxLen; omega) (key16 hk) (val := v') rfl
  have htidy := hown.tidy keyed16
  obtain ⟨es, clock, hb, F, hs, hD⟩ := hown
  obtain ⟨v0, st, es1, clock1, hrun, hcase, hst⟩ := WideElems.entry_then_store law16 Try.underlying33 (fun u => zero_sms u) hb F (key16 hk)
  have hv : v0 = f k := by
    rcases Maps.fit_look false keyed16 Try.underlying33 (zero_sms w) hb F (key16 hk) with ⟨_, hno, hat⟩ | ⟨e0, y, he0, hek, _, hRv, hat, _⟩
    · have hn : k ∉ T.map (·.1) := by
        intro hm
        have e1 := hd.is k hk hm (.held (.int .i64 0))
        have e2 := hd.is k hk hm (.held (.int .i64 1))
        rw [hD] at e1 e2
        rw [hat] at e1 e2
        rw [← e1] at e2
        cases e2
      rcases hcase with ⟨e1, h1, h2, _⟩ | ⟨_, h2⟩
      · exact absurd h2 (hno e1 h1)
      · rw [h2, hd.no k hk hn]
    · have hy : k ∈ T.map (·.1) := by
        have : Maps.has D (kyL k) = true := has_true_of_atKey (fun z => by rw [hD]; exact hat z)
        rw [hd.hs k hk] at this
        exact of_decide_eq_true this
      have e1 := hd.is k hk hy (.held (.int .i64 0))
      rw [hD, hat] at e1
      have hv0 : e0.val = f k := by
        unfold hldV at hRv
        injection hRv with hRv
        rw [← hRv] at e1
        injection e1
      rcases hcase with ⟨e2, h1, h2, h3⟩ | ⟨h1, _⟩
      · have hn : es.toList.Pairwise (fun x y => x.key ≠ y.key) := ((stamped_iff es clock).1 F.stamped).2.2
        have : e2 = e0 := by
          obtain ⟨i, hi, ei⟩ := List.getElem_of_mem h1
          obtain ⟨j, hj, ej⟩ := List.getElem_of_mem he0
          by_cases c : i = j
          · subst c; rw [← ei, ← ej]
          · exfalso
            rcases Nat.lt_or_gt_of_ne c with c | c
            · exact List.pairwise_iff_getElem.1 hn i j hi hj c (by rw [ei, ej, h2, hek])
            · exact List.pairwise_iff_getElem.1 hn j i hj hi c (by rw [ei, ej, h2, hek])
        rw [h3, this, hv0]
      · exact absurd hek (h1 e0 he0)
  subst hv
  have hEO : ∀ j, KyOk j → EO E6 43 w B (f j) (flK T j) := hd.own
  refine ⟨f k, st, .map es1 clock1, hrun, own_at (hEO k hk) (fun g hg => (heap_sb hlt).2 g (fun e => map_noKind hb _ (e ▸ eo_kindM (hEO k hk) hg))), ⟨_, _, rfl⟩, fun w2 x v' hx hw2 hot hown2 hloc => ?_⟩
  have hlt2 : m < w2.heap.size := (Array.getElem?_eq_some_iff.1 hw2).1
  obtain ⟨es', clock', hs1, hs2⟩ := hst w2 v' hw2
  refine ⟨.map es' clock', hs1, ?_⟩
  obtain ⟨w', hr, ho, -⟩ := hup v'
  rw [hs2] at hr
  injection hr with _ hr
  subst hr
  have ho2 := tight16 ho
  obtain ⟨es3, clock3, hb3, F3, hs3, hD3⟩ := ho2
  rw [(heap_sb hlt).1] at hb3
  have hm2 : ∀ j, KyOk j → j ≠ k → EO E6 43 w2 B (f j) (flK T j) := fun j hj hjk => own_at (hEO j hj) (fun g hg => hot g (eo_kindM (hEO j hj) hg) (fun e => by
    rcases hd.ap j k hj hk hjk with h0 | h0
    · rw [hg] at h0; cases h0
    · rw [hg] at h0; exact h0 e))
  have hnk : ∀ t, ¬ kindR w2 m t := fun t => map_noKind hw2 t
  have hput : ∀ {v : Value} {l : List Tok}, EO E6 43 w2 B v l → EO E6 43 (setBlock w2 m (.map es' clock')) B v l := fun {v l} hv => own_at hv (fun g hg => (heap_sb hlt2).2 g (fun e => hnk _ (e ▸ eo_kindM hv hg)))
  refine ⟨D.put (kyL k) (.held v'), fun j => if j = k then v' else f j, ⟨es3, clock3, by rw [(heap_sb hlt2).1]; exact hb3, F3, hs3, hD3⟩, ⟨?_, fun j hj => ?_, fun j hj hjm z => ?_, fun j hj hjm => ?_, fun j hj => ?_, fun i j hi hj hij => ?_, fun j hj => ?_⟩⟩
  · rw [size_put htidy, hd.hs k hk, List.length_append]
    have := hd.sz
    by_cases e : k ∈ T.map (·.1)
    · rw [decide_eq_true e]; simp; omega
    · rw [decide_eq_false e]; simp; omega
  · by_cases e : j = k
    · subst e
      rw [has_put_same htidy.isMap (kyL_key _)]
      simp [hx]
    · rw [has_put_other (kyL_ne hj hk e), hd.hs j hj, decide_eq_decide, List.map_append, List.mem_append]
      constructor
      · exact .inl
      · rintro (h' | h')
        · exact h'
        · exact absurd ((List.mem_singleton.1 h').trans hx) e
  · by_cases e : j = k
    · subst e
      rw [atKey_put_same htidy.isMap (kyL_key _), if_pos rfl]
    · rw [atKey_put_other (kyL_ne hj hk e), if_neg e]
      refine hd.is j hj ?_ z
      rw [List.map_append, List.mem_append] at hjm
      rcases hjm with h' | h'
      · exact h'
      · exact absurd ((List.mem_singleton.1 h').trans hx) e
  · rw [List.map_append, List.mem_append] at hjm
    have e : j ≠ k := fun e => hjm (.inr (by rw [e, ← hx]; exact List.mem_singleton.2 rfl))
    rw [if_neg e]
    exact hd.no j hj (fun h' => hjm (.inl h'))
  · rw [flK_snoc]
    by_cases e : j = k
    · subst e
      rw [if_pos rfl, if_pos hx]
      exact hput hown2
    · rw [if_neg e, if_neg (fun e2 => e (e2.symm.trans hx)), List.append_nil]
      exact hput (hm2 j hj e)
  · have hfar : ∀ j, KyOk j → j ≠ k → (f j).ownBlock = none ∨ (f j).ownBlock ≠ v'.ownBlock := by
      intro j hj hjk
      cases hg : (f j).ownBlock with
      | none => exact .inl rfl
      | some g =>
        right
        intro e
        rcases hloc with h1 | h1
        · rcases hd.ap j k hj hk hjk with h0 | h0
          · rw [hg] at h0; cases h0
          · exact h0 (by rw [hg, e, h1])
        · have h2 := h1 g e.symm
          have h3 := (World.ownsRow.lt (hEO j hj) g hg).2
          omega
    try dsimp only
    by_cases e : i = k
    · subst e
      rw [if_pos rfl, if_neg (Ne.symm hij)]
      cases hv : v'.ownBlock with
      | none => exact .inl rfl
      | some g =>
        right
        rcases hfar j hj (Ne.symm hij) with h0 | h0
        · rw [h0]; simp
        · rw [← hv]; exact Ne.symm h0
    · rw [if_neg e]
      by_cases e2 : j = k
      · rw [if_pos e2]; exact hfar i hi e
      · rw [if_neg e2]; exact hd.ap i j hi hj hij
  · rw [List.map_append, List.mem_append] at hj
    rcases hj with h' | h'
    · exact hd.ok j h'
    · rw [List.mem_singleton.1 h']
      show KyOk x.1
      rw [hx]; exact hk
/-- 'm[k]' of such a map. -/
theorem Gm.look {w : World} {B m : Nat} {T : List Tok} {k : Kyy} (h : Gm w B m T) (hk : KyOk k) :
    ∃ v, (Instr.lookup 33 (.map (some m)) (kyV k) false).run Try.prog w = .ok v w ∧ EO E6 43 w B v (flK T k) := by
  obtain ⟨D, f, hown, hd⟩ := h
  obtain ⟨v, ps, hrun, hR⟩ := hown.lookup keyed16 Try.underlying33 (zero_sms w) (zd := .held (.slice none 0 0)) (zp := []) rfl (key16 hk)
  refine ⟨v, hrun, ?_⟩
  unfold hldV at hR
  injection hR with hR
  have h1 := congrArg Prod.fst hR
  dsimp only at h1
  by_cases hm : k ∈ T.map (·.1)
  · rw [hd.is k hk hm] at h1
    injection h1 with h1
    rw [h1]
    exact hd.own k hk
  · have h2 : Maps.has D (kyL k) = false := by rw [hd.hs k hk]; exact decide_eq_false hm
    rw [atKey_of_not_has h2] at h1
    injection h1 with h1
    rw [h1, ← hd.no k hk hm]
    exact hd.own k hk
end Go.Proofs.Ytogbhiklhcibdaa
namespace Go.Proofs.Ytogbhiklhcibdaa
open Go.RowKit Go.Maps Go.ChangeMaps Go.MapKept
set_option linter.unusedVariables false
set_option maxRecDepth 100000

theorem chg_sb {w : World} {m : Nat} {o : Obj} (h : m < w.heap.size) : Chg m w (setBlock w m o) := ⟨rfl, rfl, rfl, by unfold setBlock; simp, (heap_sb h).2⟩
/-- What a store may lean on: what was done since the look-up. -/
def BackG (w : World) (B m : Nat) (T : List Tok) (k : Kyy) (v : Value) (st : Nat) (o1 : Obj) : Prop :=
  ∀ (w2 : World) (x : Tok) (v' : Value), x.1 = k → w2.heap[m]? = some o1 → (∀ g, kindR w g 43 → some g ≠ v.ownBlock → w2.heap[g]? = w.heap[g]?) → EO E6 43 w2 B v' (flK T k ++ [x]) →
    (v'.ownBlock = v.ownBlock ∨ ∀ g, v'.ownBlock = some g → w.heap.size ≤ g) →
    ∃ o2, (Instr.entryStore 33 (.map (some m)) (goInt st) v').run Try.prog w2 = .ok () (setBlock w2 m o2) ∧ Gm (setBlock w2 m o2) B m (T ++ [x])
section
variable {ops : Array Oper} {rest : List Oper} {o : Oper} {a : Act} {w : World} {Q : Exit → Act → World → Prop}
theorem me_run (hgd : o.guard = none) {x y : Operand} (ho : o.op = .mapEntry 33 x y) {B m : Nat} {T : List Tok} {k : Kyy} (hx : a.eval x = .map (some m)) (hy : a.eval y = kyV k) (hG : Gm w B m T) (hk : KyOk k) (hl : T.length ≤ 100000)
    (h : ∀ v st o1 W', EO E6 43 W' B v (flK T k) → Chg m w W' → W'.heap[m]? = some o1 → (∃ es c, o1 = Obj.map es c) → BackG w B m T k v st o1 → wpList Try.prog ops Q rest (a.put o.dst (.tuple #[v, goInt st])) W') : wpList Try.prog ops Q (o :: rest) a w := by
  obtain ⟨v, st, o1, hrun, hO, ho1, hB⟩ := hG.entry hk hl
  refine wpList_plain hgd fun K hK => ?_
  unfold Oper.wp execOp
  simp only [ho, hx, hy, Sem.run_bind, hrun, Result.andThen_ok]
  exact hK _ _ (h v st o1 _ hO (chg_sb hG.lt) (heap_sb hG.lt).1 ho1 hB)
theorem es_run (hgd : o.guard = none) {x y z : Operand} (ho : o.op = .entryStore 33 x y z) {B m : Nat} {T : List Tok} {k : Kyy} {w0 : World} {v v' : Value} {st : Nat} {o1 : Obj} {s : Tok} (hx : a.eval x = .map (some m)) (hy : a.eval y = goInt st) (hz : a.eval z = v')
    (hB : BackG w0 B m T k v st o1) (hs : s.1 = k) (hm : w.heap[m]? = some o1) (hot : ∀ g, kindR w0 g 43 → some g ≠ v.ownBlock → w.heap[g]? = w0.heap[g]?) (hO : EO E6 43 w B v' (flK T k ++ [s]))
    (hloc : v'.ownBlock = v.ownBlock ∨ ∀ g, v'.ownBlock = some g → w0.heap.size ≤ g)
    (h : ∀ W', Gm W' B m (T ++ [s]) → Chg m w W' → wpList Try.prog ops Q rest (a.put o.dst undef) W') : wpList Try.prog ops Q (o :: rest) a w := by
  obtain ⟨o2, hrun, hG⟩ := hB w s v' hs hm hot hO hloc
  refine wpList_plain hgd fun K hK => ?_
  unfold Oper.wp execOp
  simp only [ho, hx, hy, hz, Sem.run_bind, hrun, Result.andThen_ok]
  exact hK _ _ (h _ hG (chg_sb (Array.getElem?_eq_some_iff.1 hm).1))
/-- 'append' of one sample, and where the new slice lies. -/
theorem app_at (hgd : o.guard = none) {s x : Operand} (ho : o.op = .call { callee := .builtin .append, args := #[s, x], argTypes := #[41, 41] }) {B : Nat} {v vx : Value} {l : List Tok} {t : Tok}
    (hs : a.eval s = v) (hO : EO E6 43 w B v l) (hx : a.eval x = vx) (hsl : ER E6 w vx [t]) (hl : l.length ≤ 100000) (hB : B ≤ w.heap.size)
    (h : ∀ v' W', EO E6 43 W' B v' (l ++ [t]) → w.grownBy W' v.ownBlock → (v'.ownBlock = v.ownBlock ∨ v'.ownBlock = some w.heap.size) → wpList Try.prog ops Q rest (a.put o.dst v') W') : wpList Try.prog ops Q (o :: rest) a w := by
  obtain ⟨i, hi, hz0, hz1, hz2⟩ := info_parts infoSm
  obtain ⟨q, cap, rfl, hq, hsrc⟩ := hsl.src
  cases q with
  | none => exact absurd (hq rfl) (by simp)
  | some ad =>
    refine wpList_append_own_at w hgd s x _ ho B _ i _ 6 48 Try.underlying41 hi hz0 hz1 hz2 rfl (by omega) v l.length (E6.fl l) hs hO ad 1 cap (E6.fl [t]) hx (E6.fl_len [t])
      (hsrc ad rfl) (E6.fl_cell [t]) (by unfold maxLen; omega) (by omega) hB (fun v' W' h1 h2 _ h4 => h v' W' ?_ h2 h4)
    rw [← E6.fl_append] at h1
    exact eo_of h1
/-- What stands behind the append. -/
theorem back_ok {W1 W2 : World} {m B : Nat} {v : Value} {l : List Tok} {o1 : Obj} (hGm : ∃ es c, w.heap[m]? = some (Obj.map es c)) (hC : Chg m w W1) (hm1 : W1.heap[m]? = some o1) (ho1 : ∃ es c, o1 = Obj.map es c) (hv : EO E6 43 W1 B v l) (hg : W1.grownBy W2 v.ownBlock) :
    W2.heap[m]? = some o1 ∧ ∀ g, kindR w g 43 → some g ≠ v.ownBlock → W2.heap[g]? = w.heap[g]? := by
  obtain ⟨es, c, e1⟩ := hGm
  obtain ⟨es', c', e2⟩ := ho1
  refine ⟨?_, fun g hk hne => ?_⟩
  · have hlt : m < W1.heap.size := (Array.getElem?_eq_some_iff.1 hm1).1
    rw [hg.block m hlt (fun e => map_noKind (by rw [hm1, e2]) 43 (eo_kindM hv e.symm)), hm1]
  · have hgm : g ≠ m := fun e => map_noKind e1 _ (e ▸ hk)
    have hlt : g < w.heap.size := by obtain ⟨cur, fr, e⟩ := hk; exact (Array.getElem?_eq_some_iff.1 e).1
    rw [hg.block g (by rw [hC.size]; exact hlt) hne, hC.other g hgm]
end
end Go.Proofs.Ytogbhiklhcibdaa
