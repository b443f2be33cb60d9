/-
  Slices of strings.
-/
import Derived.Test.YteililgfjnoabaaFrM
import Derived.Test.YteililgfjnoabaaOwn
namespace Go.Proofs.Yteililgfjnoabaa
open Go.RowKit
set_option linter.unusedVariables false
set_option maxRecDepth 100000

/-- Texts as values. -/
def txv (ls : List (List Nat)) : List Value := ls.map fun l => Value.string (strB l)
theorem txv_len (ls : List (List Nat)) : (txv ls).length = ls.length := by simp [txv]
theorem txv_app (ls ms : List (List Nat)) : txv ls ++ txv ms = txv (ls ++ ms) := by simp [txv]
theorem txv_at (ls : List (List Nat)) (j : Nat) : (txv ls)[j]? = ls[j]?.map fun l => Value.string (strB l) := by simp [txv]
theorem txv_one (ls : List (List Nat)) : ∀ u ∈ txv ls, u.oneCell' = true := by
  intro u hu
  obtain ⟨x, _, rfl⟩ := List.mem_map.1 hu
  rfl
theorem infoText : (Try.prog.info? 9).map (fun i => (i.zero, i.size, i.bytes)) = some (some (.string ⟨#[]⟩), 1, 16) := by kernel_rfl
/-- An own slice of texts. -/
def Txo (W : World) (base : Nat) (v : Value) (ls : List (List Nat)) : Prop := W.ownsRow base 9 1 v ls.length (txv ls)
/-- A slice of texts. -/
def Txs (W : World) (v : Value) (ls : List (List Nat)) : Prop := ∃ q cap g off, v = .slice q ls.length cap ∧ ls.length ≤ cap ∧ cap ≤ 9223372036854775807 ∧ (0 < ls.length → q = some ⟨g, off, none⟩) ∧ (0 < ls.length → g < W.heap.size) ∧ ∀ j l, ls[j]? = some l → W.cell? ⟨g, off + j, none⟩ = some (.string (strB l))
theorem txo_of {W : World} {base n : Nat} {v : Value} {ls : List (List Nat)} (h : W.ownsRow base 9 1 v n (txv ls)) : Txo W base v ls := by
  have : n = ls.length := by have := h.1; rw [txv_len, Nat.mul_one] at this; exact this.symm
  subst this
  exact h
theorem Txo.keep {W W' : World} {base : Nat} {v : Value} {ls : List (List Nat)} (h : Txo W base v ls) (hb : Below W.heap.size W W') : Txo W' base v ls := own_keep h hb
theorem Txo.lt {W : World} {base : Nat} {v : Value} {ls : List (List Nat)} (h : Txo W base v ls) : ∀ k, v.ownBlock = some k → base ≤ k ∧ k < W.heap.size := World.ownsRow.lt h
theorem Txo.at {W W' : World} {base : Nat} {v : Value} {ls : List (List Nat)} (h : Txo W base v ls) (he : ∀ k, v.ownBlock = some k → W'.heap[k]? = W.heap[k]?) : Txo W' base v ls := own_at h he
theorem Txo.less {W : World} {base base' : Nat} {v : Value} {ls : List (List Nat)} (h : Txo W base v ls) (hb : base' ≤ base) : Txo W base' v ls := own_less h hb
theorem Txo.txs {W : World} {base : Nat} {v : Value} {ls : List (List Nat)} (h : Txo W base v ls) : Txs W v ls := by
  obtain ⟨h1, q, g, cap, e, hp, hg, _, _, hc, hm, hr, _⟩ := own_open h (by omega)
  exact ⟨q, cap, g, 0, e, hc, hm, hp, hg, fun j l hl => by rw [Nat.zero_add]; exact hr j _ (by rw [txv_at, hl]; rfl)⟩
theorem Txs.keep {W W' : World} {v : Value} {ls : List (List Nat)} (h : Txs W v ls) (hb : Below W.heap.size W W') : Txs W' v ls := by
  obtain ⟨q, cap, g, off, e, h1, h2, h3, h4, h5⟩ := h
  refine ⟨q, cap, g, off, e, h1, h2, h3, fun h0 => Nat.lt_of_lt_of_le (h4 h0) hb.size, fun j l hl => ?_⟩
  have h0 : 0 < ls.length := by have := (List.getElem?_eq_some_iff.1 hl).1; omega
  exact (hb.cell (p := ⟨g, off + j, none⟩) (h4 h0)).trans (h5 j l hl)
theorem Txs.slice {W : World} {v : Value} {ls : List (List Nat)} (h : Txs W v ls) : ∃ q c, v = .slice q ls.length c := by
  obtain ⟨q, cap, g, off, e, _⟩ := h
  exact ⟨q, cap, e⟩
theorem txs_src {W : World} {v : Value} {ls : List (List Nat)} (h : Txs W v ls) : ∃ q cap, v = .slice q ls.length cap ∧ (q = none → ls.length = 0) ∧ (∀ ad, q = some ad → ∀ j u, (txv ls)[j]? = some u → W.cell? (ad.add j) = some u) := by
  obtain ⟨q, cap, g, off, e, h1, h2, h3, h4, h5⟩ := h
  refine ⟨q, cap, e, fun hq => ?_, fun ad ha j u hu => ?_⟩
  · apply Classical.byContradiction
    intro h0
    have := h3 (by omega)
    rw [hq] at this
    cases this
  · rw [txv_at] at hu
    cases hl : ls[j]? with
    | none => rw [hl] at hu; simp at hu
    | some l =>
      rw [hl] at hu
      simp at hu
      subst hu
      have h0 : 0 < ls.length := by have := (List.getElem?_eq_some_iff.1 hl).1; omega
      have := h3 h0
      rw [ha] at this
      cases this
      rw [Addr.add_mid]
      exact h5 j l hl
/-- append of texts onto an own slice of them: its run. -/
theorem app_runS {w : World} (base : Nat) (ty : TypeId) {v vx : Value} {n k : Nat} {ls ms : List (List Nat)} (hown : w.ownsRow base 9 1 v n (txv ls)) (hsl : Txs w vx ms) (hm : ms.length = k) (h63 : n + k ≤ 8000000000000) (hA : base ≤ w.heap.size) :
    ∃ v' w', (Builtin.append_ #[28, 28] ty #[v, vx]).run Try.prog w = .ok v' w' ∧ w'.ownsRow base 9 1 v' (n + k) (txv (ls ++ ms)) ∧ w.grownBy w' v.ownBlock ∧ (v'.ownBlock = v.ownBlock ∨ v'.ownBlock = some w.heap.size) := by
  obtain ⟨i, hi, hz0, hz1, hz2⟩ := info_parts infoText
  subst hm
  obtain ⟨q, cap, rfl, hq, hsrc⟩ := txs_src hsl
  cases q with
  | none =>
    have h0 := hq rfl
    have hm0 : ms = [] := List.eq_nil_of_length_eq_zero h0
    subst hm0
    exact ⟨v, w, append_none (P := Try.prog) w base 28 ty 9 i 1 cap Try.underlying28 hi v n (txv ls) hown, by simpa using hown, ⟨rfl, rfl, rfl, Nat.le_refl _, fun _ _ _ => rfl⟩, .inl rfl⟩
  | some ad =>
    obtain ⟨v', w', hr, h2, h3, h4, h5⟩ := run_append_own_at (P := Try.prog) w base 28 ty 9 i _ 1 16 Try.underlying28 hi hz0 hz1 hz2 rfl (by omega) v n (txv ls) hown ad ms.length cap (txv ms) (by rw [txv_len, Nat.mul_one]) (hsrc ad rfl) (txv_one ms) (by unfold maxLen; omega) (by omega) hA
    exact ⟨v', w', hr, by rw [← txv_app]; exact h2, h3, h5⟩
theorem own_newS (w : World) (ls : List (List Nat)) (n : Nat) (hn : ls.length = n) (hm : n ≤ maxLen) (base : Nat) (hb : base ≤ w.heap.size) : (w.alloc (.cells (txv ls).toArray 9)).ownsRow base 9 1 (.slice (some ⟨w.heap.size, 0, none⟩) n n) n (txv ls) := by
  refine ⟨by rw [txv_len, hn, Nat.mul_one], .inr ⟨w.heap.size, n, (txv ls).toArray, rfl, hb, ?_, Nat.le_refl _, hm, ?_, ?_⟩⟩
  · show (w.heap.push _)[w.heap.size]? = _; simp
  · simp [txv_len, hn]
  · rw [Nat.mul_one, ← hn, ← txv_len ls]; simp
theorem bss0 (w : World) : (Instr.buildSlice 28 0 #[]).run Try.prog w = .ok (.slice (some ⟨w.heap.size, 0, none⟩) 0 0) (w.alloc (.cells (txv []).toArray 9)) := by kernel_rfl
theorem bss1 (l : List Nat) (w : World) : (Instr.buildSlice 28 1 #[(0, .string (strB l))]).run Try.prog w = .ok (.slice (some ⟨w.heap.size, 0, none⟩) 1 1) (w.alloc (.cells (txv [l]).toArray 9)) := by kernel_rfl
section
variable {ops : Array Oper} {rest : List Oper} {o : Oper} {a : Act} {w : World} {Q : Exit → Act → World → Prop}
theorem app_st (base : Nat) (hw : Region.wanted o (yielded ops a.tmps) = true) {s x : Operand} (ho : o.op = .call { callee := .builtin .append, args := #[s, x], argTypes := #[28, 28] })
    {v vx : Value} {n k : Nat} {ls ms : List (List Nat)} (hs : a.eval s = v) (hown : w.ownsRow base 9 1 v n (txv ls)) (hx : a.eval x = vx) (hsl : Txs w vx ms) (hm : ms.length = k) (h63 : n + k ≤ 8000000000000) (hA : base ≤ w.heap.size)
    (h : ∀ v' w', w'.ownsRow base 9 1 v' (n + k) (txv (ls ++ ms)) → w.grownBy w' v.ownBlock → (v'.ownBlock = v.ownBlock ∨ v'.ownBlock = some w.heap.size) → wpList Try.prog ops Q rest (a.put o.dst v') w') : wpList Try.prog ops Q (o :: rest) a w := by
  obtain ⟨v', w', hr, h1, h2, h3⟩ := app_runS base o.type hown hsl hm h63 hA
  unfold wpList
  rw [if_pos hw]
  left
  unfold Oper.wp execOp
  simp only [ho, resolve, invoke, builtin, Sem.run_bind, Sem.run_pure, Result.andThen_ok, List.map_toArray, List.map_cons, List.map_nil, hs, hx, hr]
  exact h v' w' h1 h2 h3
theorem bs_st (hw : Region.wanted o (yielded ops a.tmps) = true) {n : Nat} {parts : Array (Nat × Operand)} (ho : o.op = .buildSlice 28 n parts) (ls : List (List Nat)) {vs : Array (Nat × Value)} (hl : parts.map (fun (i, x) => (i, a.eval x)) = vs)
    (hrun : (Instr.buildSlice 28 n vs).run Try.prog w = .ok (.slice (some ⟨w.heap.size, 0, none⟩) n n) (w.alloc (.cells (txv ls).toArray 9))) (hn : ls.length = n) (hm : n ≤ maxLen)
    (h : ∀ W', W'.ownsRow w.heap.size 9 1 (.slice (some ⟨w.heap.size, 0, none⟩) n n) n (txv ls) → Below w.heap.size w W' → wpList Try.prog ops Q rest (a.put o.dst (.slice (some ⟨w.heap.size, 0, none⟩) n n)) W') : wpList Try.prog ops Q (o :: rest) a w := by
  unfold wpList
  rw [if_pos hw]
  left
  unfold Oper.wp execOp
  simp only [ho, Sem.run_bind, hl, hrun, Result.andThen_ok]
  exact h _ (own_newS w ls n hn hm _ (Nat.le_refl _)) ((Below.refl _ _).alloc (Nat.le_refl _) _)
end
theorem below_ownS {w w' : World} {base : Nat} {v : Value} {n : Nat} {xs : List Value} (h : w.ownsRow base 9 1 v n xs) (hA : base ≤ w.heap.size) (hg : w.grownBy w' v.ownBlock) : Below base w w' :=
  (Below.refl _ _).grown hg hA (fun r hr => (h.lt r hr).1)
section
variable {o : Oper} {a : Act} {w : World} {K : Act → World → Prop} {Q : Exit → Act → World → Prop}
theorem st0W (d : Option Tmp) (hd : o.dst = d) (ho : o.op = .buildSlice 28 0 #[]) (h : ∀ v' W', W'.ownsRow w.heap.size 9 1 v' 0 (txv []) → Below w.heap.size w W' → K (a.put d v') W') : o.wp Try.prog a w K Q := by
  subst hd
  have hrun := bss0 w
  unfold Oper.wp execOp
  simp only [ho, Sem.run_bind, List.map_toArray, List.map_nil, hrun, Result.andThen_ok]
  exact h _ _ (own_newS w [] 0 rfl (by decide) _ (Nat.le_refl _)) ((Below.refl _ _).alloc (Nat.le_refl _) _)
theorem st1W (d : Option Tmp) (hd : o.dst = d) {x : Operand} (ho : o.op = .buildSlice 28 1 #[(0, x)]) {l : List Nat} (hx : a.eval x = .string (strB l)) (h : ∀ v' W', W'.ownsRow w.heap.size 9 1 v' 1 (txv [l]) → Below w.heap.size w W' → K (a.put d v') W') : o.wp Try.prog a w K Q := by
  subst hd
  have hrun := bss1 l w
  unfold Oper.wp execOp
  simp only [ho, Sem.run_bind, List.map_toArray, List.map_cons, List.map_nil, hx, hrun, Result.andThen_ok]
  exact h _ _ (own_newS w [l] 1 rfl (by decide) _ (Nat.le_refl _)) ((Below.refl _ _).alloc (Nat.le_refl _) _)
theorem appSW (base : Nat) (d : Option Tmp) (hd : o.dst = d) {s x : Operand} (ho : o.op = .call { callee := .builtin .append, args := #[s, x], argTypes := #[28, 28] })
    {v vx : Value} {n k : Nat} {ls ms : List (List Nat)} (hs : a.eval s = v) (hown : w.ownsRow base 9 1 v n (txv ls)) (hx : a.eval x = vx) (hsl : Txs w vx ms) (hm : ms.length = k) (h63 : n + k ≤ 8000000000000) (hA : base ≤ w.heap.size)
    (h : ∀ v' w', w'.ownsRow base 9 1 v' (n + k) (txv (ls ++ ms)) → w.grownBy w' v.ownBlock → K (a.put d v') w') : o.wp Try.prog a w K Q := by
  subst hd
  obtain ⟨v', w', hr, h1, h2, h3⟩ := app_runS base o.type hown hsl hm h63 hA
  unfold Oper.wp execOp
  simp only [ho, resolve, invoke, builtin, Sem.run_bind, Sem.run_pure, Result.andThen_ok, List.map_toArray, List.map_cons, List.map_nil, hs, hx, hr]
  exact h v' w' h1 h2
end
end Go.Proofs.Yteililgfjnoabaa
