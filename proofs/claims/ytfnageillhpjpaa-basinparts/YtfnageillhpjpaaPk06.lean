/-
  append onto a slice of the call's own, from whatever source; what it leaves, in one step. Nothing here names the program.
-/
import Derived.WalkKit
import Derived.Below
import Derived.Laws.AppendOwn
import Derived.Laws.OwnMore
import Derived.Maps.AppendAt
namespace Go.Proofs.Ytfnageillhpjpaa
set_option maxRecDepth 100000
open Go.RowKit
set_option linter.unusedVariables false

section
variable {P : Program}
theorem append_none (w : World) (base : Nat) (t ty e : TypeId) (i : TypeInfo) (size c : Nat) (ht : P.underlying t = some (.slice e)) (hi : P.info? e = some i)
    (v : Value) (n : Nat) (xs : List Value) (hown : w.ownsRow base e size v n xs) : (Builtin.append_ #[t, t] ty #[v, .slice none 0 c]).run P w = .ok v w := by
  rcases hown.2 with ⟨rfl, rfl⟩ | ⟨g, cap, cur, rfl, _, _, hnc, _⟩
  · simp [Builtin.append_, run_underlying ht, sizeOf, typeInfo, hi, Builtin.lenOf, Builtin.firstCells]
  · simp [Builtin.append_, run_underlying ht, sizeOf, typeInfo, hi, Builtin.lenOf, Builtin.firstCells, hnc, storeCells]
theorem app_own {ops : Array Oper} {rest : List Oper} {o : Oper} {a : Act} {w : World} {Q : Exit → Act → World → Prop} (A : World) (hgd : o.guard = none) {s x : Operand} {t : TypeId}
    (ho : o.op = .call { callee := .builtin .append, args := #[s, x], argTypes := #[t, t] })
    {e : TypeId} {z : Value} {size bytes : Nat} (ht : P.underlying t = some (.slice e)) (hinf : (P.info? e).map (fun i => (i.zero, i.size, i.bytes)) = some (some z, size, bytes)) (hzs : z.cells.size = size) (hsz : 0 < size)
    {v : Value} {n : Nat} {xs : List Value} (hs : a.eval s = v) (hown : w.ownsRow A.heap.size e size v n xs)
    {q : Option Addr} {m c : Nat} (news : List Value) (hx : a.eval x = .slice q m c) (hq : q = none → m = 0) (hl : news.length = m * size) (hnews : ∀ ad, q = some ad → ∀ j u, news[j]? = some u → w.cell? (ad.add j) = some u) (h1 : ∀ u ∈ news, u.oneCell' = true)
    (h63 : n + m ≤ maxLen) (hbytes : (n + m) * bytes ≤ 140737488355328) (hA : Below A.heap.size A w)
    (h : ∀ v' w', w'.ownsRow A.heap.size e size v' (n + m) (xs ++ news) → (v' = .slice none 0 0 ↔ v = .slice none 0 0 ∧ m = 0) → Below A.heap.size A w' → w.grownBy w' v.ownBlock → wpList P ops Q rest (a.put o.dst v') w') : wpList P ops Q (o :: rest) a w := by
  obtain ⟨i, hi, hz0, hz1, hz2⟩ := info_parts hinf
  cases q with
  | some ad =>
    refine wpList_append_own w hgd s x t ho A.heap.size e i z size bytes ht hi hz0 hz1 hz2 hzs hsz v n xs hs hown ad m c news hx hl (hnews ad rfl) h1 h63 hbytes hA.size fun v' w' hown' hgrow hnil => ?_
    refine h v' w' hown' hnil ?_ hgrow
    refine hA.grown hgrow hA.size (fun r hr => ?_)
    rcases hown.2 with ⟨rfl, _⟩ | ⟨g', cap', cur', rfl, hbg, _⟩
    · cases hr
    · cases hr; exact hbg
  | none =>
    have hm := hq rfl
    subst hm
    have hnn : news = [] := List.eq_nil_of_length_eq_zero (by simpa using hl)
    subst hnn
    have hrun := append_none (P := P) w A.heap.size t o.type e i size c ht hi v n xs hown
    refine wpList_plain hgd fun K hK => ?_
    unfold Oper.wp execOp
    simp only [ho, resolve, invoke, builtin, Sem.run_bind, Sem.run_pure, Result.andThen_ok, List.map_toArray, List.map_cons, List.map_nil, hs, hx, hrun]
    exact hK _ _ (h v w (by simpa using hown) (by simp) hA ⟨rfl, rfl, rfl, Nat.le_refl _, fun _ _ _ => rfl⟩)
/-- The same at one operation, for regions that draw their order. -/
theorem appW {o : Oper} {a : Act} {w : World} {K : Act → World → Prop} {Q : Exit → Act → World → Prop} (A : World) (dst : Option Tmp) (hd : o.dst = dst) {s x : Operand} {t : TypeId}
    (ho : o.op = .call { callee := .builtin .append, args := #[s, x], argTypes := #[t, t] })
    {e : TypeId} {z : Value} {size bytes : Nat} (ht : P.underlying t = some (.slice e)) (hinf : (P.info? e).map (fun i => (i.zero, i.size, i.bytes)) = some (some z, size, bytes)) (hzs : z.cells.size = size) (hsz : 0 < size)
    {v : Value} {n : Nat} {xs : List Value} (hs : a.eval s = v) (hown : w.ownsRow A.heap.size e size v n xs)
    {q : Option Addr} {m c : Nat} (news : List Value) (hx : a.eval x = .slice q m c) (hq : q = none → m = 0) (hl : news.length = m * size) (hnews : ∀ ad, q = some ad → ∀ j u, news[j]? = some u → w.cell? (ad.add j) = some u) (h1 : ∀ u ∈ news, u.oneCell' = true)
    (h63 : n + m ≤ maxLen) (hbytes : (n + m) * bytes ≤ 140737488355328) (hA : Below A.heap.size A w)
    (h : ∀ v' w', w'.ownsRow A.heap.size e size v' (n + m) (xs ++ news) → (v' = .slice none 0 0 ↔ v = .slice none 0 0 ∧ m = 0) → Below A.heap.size A w' → w.grownBy w' v.ownBlock → K (a.put dst v') w') : o.wp P a w K Q := by
  subst hd
  obtain ⟨i, hi, hz0, hz1, hz2⟩ := info_parts hinf
  cases q with
  | some ad =>
    refine wp_append_own w s x t ho A.heap.size e i z size bytes ht hi hz0 hz1 hz2 hzs hsz v n xs hs hown ad m c news hx hl (hnews ad rfl) h1 h63 hbytes hA.size fun v' w' hown' hgrow hnil => ?_
    refine h v' w' hown' hnil ?_ hgrow
    refine hA.grown hgrow hA.size (fun r hr => ?_)
    rcases hown.2 with ⟨rfl, _⟩ | ⟨g', cap', cur', rfl, hbg, _⟩
    · cases hr
    · cases hr; exact hbg
  | none =>
    have hm := hq rfl
    subst hm
    have hnn : news = [] := List.eq_nil_of_length_eq_zero (by simpa using hl)
    subst hnn
    have hrun := append_none (P := P) w A.heap.size t o.type e i size c ht hi v n xs hown
    unfold Oper.wp execOp
    simp only [ho, resolve, invoke, builtin, Sem.run_bind, Sem.run_pure, Result.andThen_ok, List.map_toArray, List.map_cons, List.map_nil, hs, hx, hrun]
    exact h v w (by simpa using hown) (by simp) hA ⟨rfl, rfl, rfl, Nat.le_refl _, fun _ _ _ => rfl⟩
/-- The same at an operation of a list, guarded or not. -/
theorem app_ownG {ops : Array Oper} {rest : List Oper} {o : Oper} {a : Act} {w : World} {Q : Exit → Act → World → Prop} (A : World) (hw : Region.wanted o (yielded ops a.tmps) = true) {s x : Operand} {t : TypeId}
    (ho : o.op = .call { callee := .builtin .append, args := #[s, x], argTypes := #[t, t] })
    {e : TypeId} {z : Value} {size bytes : Nat} (ht : P.underlying t = some (.slice e)) (hinf : (P.info? e).map (fun i => (i.zero, i.size, i.bytes)) = some (some z, size, bytes)) (hzs : z.cells.size = size) (hsz : 0 < size)
    {v : Value} {n : Nat} {xs : List Value} (hs : a.eval s = v) (hown : w.ownsRow A.heap.size e size v n xs)
    {q : Option Addr} {m c : Nat} (news : List Value) (hx : a.eval x = .slice q m c) (hq : q = none → m = 0) (hl : news.length = m * size) (hnews : ∀ ad, q = some ad → ∀ j u, news[j]? = some u → w.cell? (ad.add j) = some u) (h1 : ∀ u ∈ news, u.oneCell' = true)
    (h63 : n + m ≤ maxLen) (hbytes : (n + m) * bytes ≤ 140737488355328) (hA : Below A.heap.size A w)
    (h : ∀ v' w', w'.ownsRow A.heap.size e size v' (n + m) (xs ++ news) → (v' = .slice none 0 0 ↔ v = .slice none 0 0 ∧ m = 0) → Below A.heap.size A w' → w.grownBy w' v.ownBlock → wpList P ops Q rest (a.put o.dst v') w') : wpList P ops Q (o :: rest) a w := by
  unfold wpList
  rw [if_pos hw]
  left
  exact appW A o.dst rfl ho ht hinf hzs hsz hs hown news hx hq hl hnews h1 h63 hbytes hA h
/-- A new empty slice of the call's own. -/
theorem own_empty (w : World) (A : World) (e : TypeId) (size : Nat) (h : A.heap.size ≤ w.heap.size) : (w.alloc (.cells #[] e)).ownsRow A.heap.size e size (.slice (some ⟨w.heap.size, 0, none⟩) 0 0) 0 [] :=
  ⟨by simp, .inr ⟨w.heap.size, 0, #[], rfl, h, by show (w.heap.push _)[w.heap.size]? = _; simp, by omega, by omega, by simp, by simp⟩⟩
theorem own_keep {W W' : World} {base e size n : Nat} {v : Value} {xs : List Value} (h : W.ownsRow base e size v n xs) (hb : Below W.heap.size W W') : W'.ownsRow base e size v n xs := by
  refine ⟨h.1, ?_⟩
  rcases h.2 with h2 | ⟨g, cap, cur, h1, h2, hg, h3⟩
  · exact .inl h2
  · exact .inr ⟨g, cap, cur, h1, h2, (hb.block g (Array.getElem?_eq_some_iff.1 hg).1).trans hg, h3⟩
/-- The cells of a row that the call owns. -/
theorem own_cells {W : World} {base e size n : Nat} {v : Value} {xs : List Value} (h : W.ownsRow base e size v n xs) (hv : v ≠ .slice none 0 0) :
    ∃ g cap, v = .slice (some ⟨g, 0, none⟩) n cap ∧ base ≤ g ∧ g < W.heap.size ∧ n ≤ cap ∧ cap ≤ maxLen ∧ ∀ j u, xs[j]? = some u → W.cell? ⟨g, j, none⟩ = some u := by
  obtain ⟨h1, h2⟩ := h
  rcases h2 with ⟨h2, _⟩ | ⟨g, cap, cur, rfl, hb, hg, hnc, hcm, hcs, ht⟩
  · exact absurd h2 hv
  · refine ⟨g, cap, rfl, hb, (Array.getElem?_eq_some_iff.1 hg).1, hnc, hcm, fun j u hu => ?_⟩
    have hj : j < xs.length := (List.getElem?_eq_some_iff.1 hu).1
    rw [cell_of_row W g j cur e (0, 0) hg]
    rw [← ht, List.getElem?_take_of_lt (by omega)] at hu
    simpa using hu
end
theorem own_at {W W' : World} {base n e size : Nat} {v : Value} {xs : List Value} (h : W.ownsRow base e size v n xs) (he : ∀ g, v.ownBlock = some g → W'.heap[g]? = W.heap[g]?) : W'.ownsRow base e size v n xs := by
  refine ⟨h.1, ?_⟩
  rcases h.2 with h2 | ⟨g, cap, cur, rfl, hb, hg, h4⟩
  · exact .inl h2
  · exact .inr ⟨g, cap, cur, rfl, hb, (he g rfl).trans hg, h4⟩
/-- Two slices whose blocks differ. -/
def Sep (a b : Value) : Prop := ∀ k, a.ownBlock = some k → b.ownBlock ≠ some k
theorem Sep.symm {a b : Value} (h : Sep a b) : Sep b a := fun k hk he => h k he hk
theorem sep_lt {a b : Value} {m : Nat} (h : ∀ k, a.ownBlock = some k → k < m) (g : ∀ k, b.ownBlock = some k → m ≤ k) : Sep a b := fun k hk he => by
  have := h k hk; have := g k he; omega
theorem Sep.row {a b : Value} (h : Sep a b) : a.ownBlock = none ∨ a.ownBlock ≠ b.ownBlock := by
  cases ha : a.ownBlock with
  | none => exact .inl rfl
  | some k => exact .inr (fun e => h k ha e.symm)
/-- Own rows of unlike things lie apart. -/
theorem sep_ty {W : World} {b b' n m e e' s s' : Nat} {v u : Value} {xs ys : List Value} (h : W.ownsRow b e s v n xs) (k : W.ownsRow b' e' s' u m ys) (hn : e ≠ e') : Sep v u := by
  intro g hg hu
  rcases h.2 with ⟨h2, _⟩ | ⟨g1, cap, cur, h2, hb, hg1, _⟩
  · rw [h2] at hg; cases hg
  · rcases k.2 with ⟨k2, _⟩ | ⟨g2, cap2, cur2, k2, kb, kg2, _⟩
    · rw [k2] at hu; cases hu
    · rw [h2] at hg
      rw [k2] at hu
      have e1 : g1 = g := by simpa [Value.ownBlock] using hg
      have e2 : g2 = g := by simpa [Value.ownBlock] using hu
      subst e1
      subst e2
      rw [hg1] at kg2
      cases kg2
      exact hn rfl
theorem below_ownE {w w' : World} {base n e s : Nat} {v : Value} {xs : List Value} (h : w.ownsRow base e s v n xs) (hA : base ≤ w.heap.size) (hg : w.grownBy w' v.ownBlock) : Below base w w' :=
  (Below.refl _ _).grown hg hA (fun r hr => (h.lt r hr).1)
end Go.Proofs.Ytfnageillhpjpaa
