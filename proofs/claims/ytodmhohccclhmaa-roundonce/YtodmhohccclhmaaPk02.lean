/-
  Regions that draw their order and whose calls may make memory: one walk in the order of the text, in the class of all worlds in which nothing below a mark has turned.
  append onto a slice of the call's own, from whatever source; what it leaves, in one step. Nothing here names the program.
  Slices of slices, at one operation: whatever the bounds, no part of the walk. Nothing here names the program.
-/
import Derived.WalkKit
import Derived.Deep.QuietTactic
import Derived.BigQuiet
import Derived.WalkLawsBesides
import Derived.Deep.RegionHeld3
import Derived.Below
import Derived.Laws.AppendOwn
import Derived.Laws.OwnMore
import Derived.Maps.AppendAt
import Derived.Laws.Slices
import Derived.Deep.MidRow
namespace Go.Proofs.Ytodmhohccclhmaa
open Go.RowKit
set_option linter.unusedVariables false

/-- A world in which nothing that lies in W has turned. -/
structure Cls (W : World) where
  val : World
  prop : Below W.heap.size W val

theorem cls_some (W : World) : Nonempty (Cls W) := ⟨⟨W, Below.refl _ _⟩⟩

theorem wp_region_below {P : Program} {id : Nat} {Q : Exit → Act → World → Prop} {a : Act} {w : World} {l : List Oper} (hm : P.follows .mixedOrders = true) (hB : Region.lexB .any l.toArray = true)
    (h : wpQuiet P l.toArray (fun w' => ∃ x : Cls w, w' = x.val) (fun a' => ∀ w', (∃ x : Cls w, w' = x.val) → Q .normal a' w') l a) : (Code.region id l.toArray true).wp P Q a w :=
  wp_region_quiet (C := fun w' => ∃ x : Cls w, w' = x.val) hm hB ⟨⟨w.drew, (Below.refl _ _).drew⟩, rfl⟩ (by simpa using h)

theorem calls_below {P : Program} {f : FuncId} {args : Array Value} {W : World} {x : Cls W} {v : Value}
    (h : Calls P f args x.val fun e w' => e = .returned v ∧ Below x.val.heap.size x.val w') : Calls P f args x.val fun e w'' => e = .returned v ∧ ∃ y : Cls W, w'' = y.val :=
  h.mono fun _ w1 ⟨he, hb⟩ => ⟨he, ⟨w1, x.prop.trans (hb.mono x.prop.size)⟩, rfl⟩
theorem calls_drawn {P : Program} {f : FuncId} {args : Array Value} {W : World} {x : Cls W} {v : Value}
    (h : Calls P f args x.val fun e w' => e = .returned v ∧ ∃ n, w' = x.val.drewN n) : Calls P f args x.val fun e w'' => e = .returned v ∧ ∃ y : Cls W, w'' = y.val :=
  h.mono fun _ w1 ⟨he, n, hb⟩ => ⟨he, ⟨w1, hb ▸ below_drewN x.prop n⟩, rfl⟩
theorem calls_same {P : Program} {f : FuncId} {args : Array Value} {W : World} {x : Cls W} {v : Value}
    (h : Calls P f args x.val fun e w' => e = .returned v ∧ w' = x.val) : Calls P f args x.val fun e w'' => e = .returned v ∧ ∃ y : Cls W, w'' = y.val :=
  h.mono fun _ w1 ⟨he, hb⟩ => ⟨he, x, hb⟩
/-- A cell of W in a world of its class. -/
theorem cls_cell {W : World} {b o : Nat} {v : Value} (h : W.cell? ⟨b, o, none⟩ = some v) (hb : b < W.heap.size) (x : Cls W) : x.val.cell? ⟨b, o, none⟩ = some v := by
  rw [x.prop.cell (p := ⟨b, o, none⟩) hb]; exact h
/-- A cell that was there is there behind a call that turned nothing that was there. -/
theorem keep_cell {W w' : World} {b o : Nat} {v : Value} (hb : Below W.heap.size W w') (h : W.cell? ⟨b, o, none⟩ = some v) (hlt : b < W.heap.size) : w'.cell? ⟨b, o, none⟩ = some v := by
  rw [hb.cell (p := ⟨b, o, none⟩) hlt]; exact h
/-- An operation that yields one value in every world of the class. -/
theorem quiet_val {P : Program} {ops : Array Oper} {C : World → Prop} {Q : Act → Prop} {a : Act} {o : Oper} {rest : List Oper} (hw : Region.wanted o (yielded ops a.tmps) = true) (v : Value)
    (hr : ∀ w, C w → (execOp a.eval o).run P w = .ok (.value v) w) (h : wpQuiet P ops C Q rest (a.put o.dst v)) : wpQuiet P ops C Q (o :: rest) a := by
  unfold wpQuiet
  rw [if_pos hw]
  exact ⟨v, fun w hC => by unfold Oper.quietAt; rw [hr w hC]; exact ⟨rfl, rfl⟩, h⟩
/-- An operation that yields is taken first; where its value goes is said. -/
theorem takeH {P : Program} {md : Region.Mode} {ops : Array Oper} {Q : Exit → Act → World → Prop} {S : World → Prop} {i : Nat} {oi : Oper} {v : Value} {fuel : Nat} {listed : Array Bool} {a : Act} {w : World} (d : Option Tmp) (hi : ops[i]? = some oi) (hd : oi.dst = d)
    (hs : Region.noSelect ops = true) (hf : Region.free md ops listed i = true) (hr : (Region.ready md ops listed).contains i = true)
    (hQ : ∀ c a w, Q (.panic c) (a.put d v) w → Q (.panic c) a w) (hw : Region.wanted oi (yielded ops a.tmps) = true) (hy : ∀ w, S w → (execOp a.eval oi).run P w = .ok (.value v) w) (hS : S w)
    (h : wpAnyH P md ops Q S fuel (listed.setIfInBounds i true) (a.put d v) w) : wpAnyH P md ops Q S (fuel + 1) listed a w := by
  subst hd
  exact wpAnyH_take hi hs hf hr hQ (Or.inl ⟨hw, hy⟩) hS h
end Go.Proofs.Ytodmhohccclhmaa
namespace Go.Proofs.Ytodmhohccclhmaa
open Go.RowKit
set_option linter.unusedVariables false

section
variable {P : Program}
theorem append_none (w : World) (base : Nat) (t ty e : TypeId) (i : TypeInfo) (size c : Nat) (ht : P.underlying t = some (.slice e)) (hi : P.info? e = some i)
    (v : Value) (n : Nat) (xs : List Value) (hown : w.ownsRow base e size v n xs) : (Builtin.append_ #[t, t] ty #[v, .slice none 0 c]).run P w = .ok v w := by
  rcases hown.2 with ⟨rfl, rfl⟩ | ⟨g, cap, cur, rfl, _, _, hnc, _⟩
  · simp [Builtin.append_, run_underlying ht, sizeOf, typeInfo, hi, Builtin.lenOf, Builtin.firstCells]
  · simp [Builtin.append_, run_underlying ht, sizeOf, typeInfo, hi, Builtin.lenOf, Builtin.firstCells, hnc, storeCells]
theorem app_own {ops : Array Oper} {rest : List Oper} {o : Oper} {a : Act} {w : World} {Q : Exit → Act → World → Prop} (A : World) (hgd : o.guard = none) {s x : Operand} {t : TypeId}
    (ho : o.op = .call { callee := .builtin .append, args := #[s, x], argTypes := #[t, t] })
    {e : TypeId} {z : Value} {size bytes : Nat} (ht : P.underlying t = some (.slice e)) (hinf : (P.info? e).map (fun i => (i.zero, i.size, i.bytes)) = some (some z, size, bytes)) (hzs : z.cells.size = size) (hsz : 0 < size)
    {v : Value} {n : Nat} {xs : List Value} (hs : a.eval s = v) (hown : w.ownsRow A.heap.size e size v n xs)
    {q : Option Addr} {m c : Nat} (news : List Value) (hx : a.eval x = .slice q m c) (hq : q = none → m = 0) (hl : news.length = m * size) (hnews : ∀ ad, q = some ad → ∀ j u, news[j]? = some u → w.cell? (ad.add j) = some u) (h1 : ∀ u ∈ news, u.oneCell' = true)
    (h63 : n + m ≤ maxLen) (hbytes : (n + m) * bytes ≤ 140737488355328) (hA : Below A.heap.size A w)
    (h : ∀ v' w', w'.ownsRow A.heap.size e size v' (n + m) (xs ++ news) → (v' = .slice none 0 0 ↔ v = .slice none 0 0 ∧ m = 0) → Below A.heap.size A w' → w.grownBy w' v.ownBlock → wpList P ops Q rest (a.put o.dst v') w') : wpList P ops Q (o :: rest) a w := by
  obtain ⟨i, hi, hz0, hz1, hz2⟩ := info_parts hinf
  cases q with
  | some ad =>
    refine wpList_append_own w hgd s x t ho A.heap.size e i z size bytes ht hi hz0 hz1 hz2 hzs hsz v n xs hs hown ad m c news hx hl (hnews ad rfl) h1 h63 hbytes hA.size fun v' w' hown' hgrow hnil => ?_
    refine h v' w' hown' hnil ?_ hgrow
    refine hA.grown hgrow hA.size (fun r hr => ?_)
    rcases hown.2 with ⟨rfl, _⟩ | ⟨g', cap', cur', rfl, hbg, _⟩
    · cases hr
    · cases hr; exact hbg
  | none =>
    have hm := hq rfl
    subst hm
    have hnn : news = [] := List.eq_nil_of_length_eq_zero (by simpa using hl)
    subst hnn
    have hrun := append_none (P := P) w A.heap.size t o.type e i size c ht hi v n xs hown
    refine wpList_plain hgd fun K hK => ?_
    unfold Oper.wp execOp
    simp only [ho, resolve, invoke, builtin, Sem.run_bind, Sem.run_pure, Result.andThen_ok, List.map_toArray, List.map_cons, List.map_nil, hs, hx, hrun]
    exact hK _ _ (h v w (by simpa using hown) (by simp) hA ⟨rfl, rfl, rfl, Nat.le_refl _, fun _ _ _ => rfl⟩)
/-- The same at one operation, for regions that draw their order. -/
theorem appW {o : Oper} {a : Act} {w : World} {K : Act → World → Prop} {Q : Exit → Act → World → Prop} (A : World) (dst : Option Tmp) (hd : o.dst = dst) {s x : Operand} {t : TypeId}
    (ho : o.op = .call { callee := .builtin .append, args := #[s, x], argTypes := #[t, t] })
    {e : TypeId} {z : Value} {size bytes : Nat} (ht : P.underlying t = some (.slice e)) (hinf : (P.info? e).map (fun i => (i.zero, i.size, i.bytes)) = some (some z, size, bytes)) (hzs : z.cells.size = size) (hsz : 0 < size)
    {v : Value} {n : Nat} {xs : List Value} (hs : a.eval s = v) (hown : w.ownsRow A.heap.size e size v n xs)
    {q : Option Addr} {m c : Nat} (news : List Value) (hx : a.eval x = .slice q m c) (hq : q = none → m = 0) (hl : news.length = m * size) (hnews : ∀ ad, q = some ad → ∀ j u, news[j]? = some u → w.cell? (ad.add j) = some u) (h1 : ∀ u ∈ news, u.oneCell' = true)
    (h63 : n + m ≤ maxLen) (hbytes : (n + m) * bytes ≤ 140737488355328) (hA : Below A.heap.size A w)
    (h : ∀ v' w', w'.ownsRow A.heap.size e size v' (n + m) (xs ++ news) → (v' = .slice none 0 0 ↔ v = .slice none 0 0 ∧ m = 0) → Below A.heap.size A w' → w.grownBy w' v.ownBlock → K (a.put dst v') w') : o.wp P a w K Q := by
  subst hd
  obtain ⟨i, hi, hz0, hz1, hz2⟩ := info_parts hinf
  cases q with
  | some ad =>
    refine wp_append_own w s x t ho A.heap.size e i z size bytes ht hi hz0 hz1 hz2 hzs hsz v n xs hs hown ad m c news hx hl (hnews ad rfl) h1 h63 hbytes hA.size fun v' w' hown' hgrow hnil => ?_
    refine h v' w' hown' hnil ?_ hgrow
    refine hA.grown hgrow hA.size (fun r hr => ?_)
    rcases hown.2 with ⟨rfl, _⟩ | ⟨g', cap', cur', rfl, hbg, _⟩
    · cases hr
    · cases hr; exact hbg
  | none =>
    have hm := hq rfl
    subst hm
    have hnn : news = [] := List.eq_nil_of_length_eq_zero (by simpa using hl)
    subst hnn
    have hrun := append_none (P := P) w A.heap.size t o.type e i size c ht hi v n xs hown
    unfold Oper.wp execOp
    simp only [ho, resolve, invoke, builtin, Sem.run_bind, Sem.run_pure, Result.andThen_ok, List.map_toArray, List.map_cons, List.map_nil, hs, hx, hrun]
    exact h v w (by simpa using hown) (by simp) hA ⟨rfl, rfl, rfl, Nat.le_refl _, fun _ _ _ => rfl⟩
/-- The same at an operation of a list, guarded or not. -/
theorem app_ownG {ops : Array Oper} {rest : List Oper} {o : Oper} {a : Act} {w : World} {Q : Exit → Act → World → Prop} (A : World) (hw : Region.wanted o (yielded ops a.tmps) = true) {s x : Operand} {t : TypeId}
    (ho : o.op = .call { callee := .builtin .append, args := #[s, x], argTypes := #[t, t] })
    {e : TypeId} {z : Value} {size bytes : Nat} (ht : P.underlying t = some (.slice e)) (hinf : (P.info? e).map (fun i => (i.zero, i.size, i.bytes)) = some (some z, size, bytes)) (hzs : z.cells.size = size) (hsz : 0 < size)
    {v : Value} {n : Nat} {xs : List Value} (hs : a.eval s = v) (hown : w.ownsRow A.heap.size e size v n xs)
    {q : Option Addr} {m c : Nat} (news : List Value) (hx : a.eval x = .slice q m c) (hq : q = none → m = 0) (hl : news.length = m * size) (hnews : ∀ ad, q = some ad → ∀ j u, news[j]? = some u → w.cell? (ad.add j) = some u) (h1 : ∀ u ∈ news, u.oneCell' = true)
    (h63 : n + m ≤ maxLen) (hbytes : (n + m) * bytes ≤ 140737488355328) (hA : Below A.heap.size A w)
    (h : ∀ v' w', w'.ownsRow A.heap.size e size v' (n + m) (xs ++ news) → (v' = .slice none 0 0 ↔ v = .slice none 0 0 ∧ m = 0) → Below A.heap.size A w' → w.grownBy w' v.ownBlock → wpList P ops Q rest (a.put o.dst v') w') : wpList P ops Q (o :: rest) a w := by
  unfold wpList
  rw [if_pos hw]
  left
  exact appW A o.dst rfl ho ht hinf hzs hsz hs hown news hx hq hl hnews h1 h63 hbytes hA h
/-- A new empty slice of the call's own. -/
theorem own_empty (w : World) (A : World) (e : TypeId) (size : Nat) (h : A.heap.size ≤ w.heap.size) : (w.alloc (.cells #[] e)).ownsRow A.heap.size e size (.slice (some ⟨w.heap.size, 0, none⟩) 0 0) 0 [] :=
  ⟨by simp, .inr ⟨w.heap.size, 0, #[], rfl, h, by show (w.heap.push _)[w.heap.size]? = _; simp, by omega, by omega, by simp, by simp⟩⟩
theorem own_keep {W W' : World} {base e size n : Nat} {v : Value} {xs : List Value} (h : W.ownsRow base e size v n xs) (hb : Below W.heap.size W W') : W'.ownsRow base e size v n xs := by
  refine ⟨h.1, ?_⟩
  rcases h.2 with h2 | ⟨g, cap, cur, h1, h2, hg, h3⟩
  · exact .inl h2
  · exact .inr ⟨g, cap, cur, h1, h2, (hb.block g (Array.getElem?_eq_some_iff.1 hg).1).trans hg, h3⟩
/-- The cells of a row that the call owns. -/
theorem own_cells {W : World} {base e size n : Nat} {v : Value} {xs : List Value} (h : W.ownsRow base e size v n xs) (hv : v ≠ .slice none 0 0) :
    ∃ g cap, v = .slice (some ⟨g, 0, none⟩) n cap ∧ base ≤ g ∧ g < W.heap.size ∧ n ≤ cap ∧ cap ≤ maxLen ∧ ∀ j u, xs[j]? = some u → W.cell? ⟨g, j, none⟩ = some u := by
  obtain ⟨h1, h2⟩ := h
  rcases h2 with ⟨h2, _⟩ | ⟨g, cap, cur, rfl, hb, hg, hnc, hcm, hcs, ht⟩
  · exact absurd h2 hv
  · refine ⟨g, cap, rfl, hb, (Array.getElem?_eq_some_iff.1 hg).1, hnc, hcm, fun j u hu => ?_⟩
    have hj : j < xs.length := (List.getElem?_eq_some_iff.1 hu).1
    rw [cell_of_row W g j cur e (0, 0) hg]
    rw [← ht, List.getElem?_take_of_lt (by omega)] at hu
    simpa using hu
end
theorem own_at {W W' : World} {base n e size : Nat} {v : Value} {xs : List Value} (h : W.ownsRow base e size v n xs) (he : ∀ g, v.ownBlock = some g → W'.heap[g]? = W.heap[g]?) : W'.ownsRow base e size v n xs := by
  refine ⟨h.1, ?_⟩
  rcases h.2 with h2 | ⟨g, cap, cur, rfl, hb, hg, h4⟩
  · exact .inl h2
  · exact .inr ⟨g, cap, cur, rfl, hb, (he g rfl).trans hg, h4⟩
/-- Two slices whose blocks differ. -/
def Sep (a b : Value) : Prop := ∀ k, a.ownBlock = some k → b.ownBlock ≠ some k
theorem Sep.symm {a b : Value} (h : Sep a b) : Sep b a := fun k hk he => h k he hk
theorem sep_lt {a b : Value} {m : Nat} (h : ∀ k, a.ownBlock = some k → k < m) (g : ∀ k, b.ownBlock = some k → m ≤ k) : Sep a b := fun k hk he => by
  have := h k hk; have := g k he; omega
theorem Sep.row {a b : Value} (h : Sep a b) : a.ownBlock = none ∨ a.ownBlock ≠ b.ownBlock := by
  cases ha : a.ownBlock with
  | none => exact .inl rfl
  | some k => exact .inr (fun e => h k ha e.symm)
/-- Own rows of unlike things lie apart. -/
theorem sep_ty {W : World} {b b' n m e e' s s' : Nat} {v u : Value} {xs ys : List Value} (h : W.ownsRow b e s v n xs) (k : W.ownsRow b' e' s' u m ys) (hn : e ≠ e') : Sep v u := by
  intro g hg hu
  rcases h.2 with ⟨h2, _⟩ | ⟨g1, cap, cur, h2, hb, hg1, _⟩
  · rw [h2] at hg; cases hg
  · rcases k.2 with ⟨k2, _⟩ | ⟨g2, cap2, cur2, k2, kb, kg2, _⟩
    · rw [k2] at hu; cases hu
    · rw [h2] at hg
      rw [k2] at hu
      have e1 : g1 = g := by simpa [Value.ownBlock] using hg
      have e2 : g2 = g := by simpa [Value.ownBlock] using hu
      subst e1
      subst e2
      rw [hg1] at kg2
      cases kg2
      exact hn rfl
theorem below_ownE {w w' : World} {base n e s : Nat} {v : Value} {xs : List Value} (h : w.ownsRow base e s v n xs) (hA : base ≤ w.heap.size) (hg : w.grownBy w' v.ownBlock) : Below base w w' :=
  (Below.refl _ _).grown hg hA (fun r hr => (h.lt r hr).1)
end Go.Proofs.Ytodmhohccclhmaa
namespace Go.Proofs.Ytodmhohccclhmaa
open Go.RowKit
set_option linter.unusedVariables false

section
variable {P : Program} {ops : Array Oper} {rest : List Oper} {o : Oper} {a : Act} {w : World} {Q : Exit → Act → World → Prop}
theorem valS (hw : Region.wanted o (yielded ops a.tmps) = true) (v : Value) (hr : (execOp a.eval o).run P w = .ok (.value v) w) (h : wpList P ops Q rest (a.put o.dst v) w) : wpList P ops Q (o :: rest) a w := by
  unfold wpList
  rw [if_pos hw]
  left
  unfold Oper.wp
  rw [hr, Oper.upon_value]
  exact h
theorem sliced_some (g off l h m s : Nat) : ∃ o', sliced (some ⟨g, off, none⟩) l h m s = .slice (some ⟨g, o', none⟩) (h - l) (m - l) ∧ (l < m → o' = off + l * s) := by
  unfold sliced
  by_cases c : m = l
  · exact ⟨off, by rw [if_pos c], fun h => absurd c (by omega)⟩
  · exact ⟨off + l * s, by rw [if_neg c, Option.map_some, Addr.add_mid], fun _ => rfl⟩
/-- 'x[l:]', its run. -/
theorem slo_l {ρ : Operand → Value} {t : TypeId} {x y : Operand} (ho : o.op = .slice t x (some y) none none) {g off n cap l sz o' : Nat} {L : Int}
    (hx : ρ x = .slice (some ⟨g, off, none⟩) n cap) (hy : ρ y = .int .i64 L) (hL : L = (l : Int))
    (ht : P.underlying t = some (.slice (P.elem t))) (hs : (sizeOf (P.elem t)).run P w = .ok sz w) (h1 : l ≤ n) (h2 : n ≤ cap)
    (e : sliced (some ⟨g, off, none⟩) l n cap sz = .slice (some ⟨g, o', none⟩) (n - l) (cap - l)) : (execOp ρ o).run P w = .ok (.value (.slice (some ⟨g, o', none⟩) (n - l) (cap - l))) w := by
  subst hL
  unfold execOp
  simp only [ho, hx, hy, Option.map_some, Option.map_none, Sem.run_bind, run_sliceAt_slice w t _ _ _ _ ht, run_slice_l w t (some ⟨g, off, none⟩) n cap ht _ (l : Int) (by omega) (by omega), hs, Result.andThen_ok, Sem.run_pure, Int.toNat_natCast, e]
/-- 'x[:h]', its run. -/
theorem slo_h {ρ : Operand → Value} {t : TypeId} {x z : Operand} (ho : o.op = .slice t x none (some z) none) {g off n cap h sz : Nat} {J : Int}
    (hx : ρ x = .slice (some ⟨g, off, none⟩) n cap) (hz : ρ z = .int .i64 J) (hJ : J = (h : Int))
    (ht : P.underlying t = some (.slice (P.elem t))) (hs : (sizeOf (P.elem t)).run P w = .ok sz w) (h2 : h ≤ cap) : (execOp ρ o).run P w = .ok (.value (.slice (some ⟨g, off, none⟩) h cap)) w := by
  subst hJ
  unfold execOp
  simp only [ho, hx, hz, Option.map_some, Option.map_none, Sem.run_bind, run_sliceAt_slice w t _ _ _ _ ht, run_slice_h w t (some ⟨g, off, none⟩) n cap ht _ (h : Int) (by omega) (by omega), hs, Result.andThen_ok, Sem.run_pure, Int.toNat_natCast, sliced, Nat.zero_mul, Option.map_some, Addr.add_mid, Nat.add_zero, ite_self, Nat.sub_zero]
/-- 'x[l:h]' -/
theorem sl_lh (hw : Region.wanted o (yielded ops a.tmps) = true) {t : TypeId} {x y z : Operand} (ho : o.op = .slice t x (some y) (some z) none) {g off n cap l h sz : Nat}
    (hx : a.eval x = .slice (some ⟨g, off, none⟩) n cap) (hy : a.eval y = .int .i64 (l : Int)) (hz : a.eval z = .int .i64 (h : Int))
    (ht : P.underlying t = some (.slice (P.elem t))) (hs : (sizeOf (P.elem t)).run P w = .ok sz w) (h1 : l ≤ h) (h2 : h ≤ cap)
    (hK : ∀ o' cp, (0 < h - l → o' = off + l * sz) → cp = cap - l → wpList P ops Q rest (a.put o.dst (.slice (some ⟨g, o', none⟩) (h - l) cp)) w) : wpList P ops Q (o :: rest) a w := by
  obtain ⟨o', e, f⟩ := sliced_some g off l h cap sz
  refine valS hw _ ?_ (hK o' (cap - l) (fun h0 => f (by omega)) rfl)
  unfold execOp
  simp only [ho, hx, hy, hz, Option.map_some, Option.map_none, Sem.run_bind, run_sliceAt_slice w t _ _ _ _ ht, run_slice_lh w t (some ⟨g, off, none⟩) n cap ht _ _ (l : Int) (h : Int) (by omega) (by omega) (by omega), hs, Result.andThen_ok, Sem.run_pure, Int.toNat_natCast, e]
/-- 'x[l:]' -/
theorem sl_l (hw : Region.wanted o (yielded ops a.tmps) = true) {t : TypeId} {x y : Operand} (ho : o.op = .slice t x (some y) none none) {g off n cap l sz : Nat}
    (hx : a.eval x = .slice (some ⟨g, off, none⟩) n cap) (hy : a.eval y = .int .i64 (l : Int))
    (ht : P.underlying t = some (.slice (P.elem t))) (hs : (sizeOf (P.elem t)).run P w = .ok sz w) (h1 : l ≤ n) (h2 : n ≤ cap)
    (hK : ∀ o' cp, (0 < n - l → o' = off + l * sz) → cp = cap - l → wpList P ops Q rest (a.put o.dst (.slice (some ⟨g, o', none⟩) (n - l) cp)) w) : wpList P ops Q (o :: rest) a w := by
  obtain ⟨o', e, f⟩ := sliced_some g off l n cap sz
  refine valS hw _ ?_ (hK o' (cap - l) (fun h0 => f (by omega)) rfl)
  unfold execOp
  simp only [ho, hx, hy, Option.map_some, Option.map_none, Sem.run_bind, run_sliceAt_slice w t _ _ _ _ ht, run_slice_l w t (some ⟨g, off, none⟩) n cap ht _ (l : Int) (by omega) (by omega), hs, Result.andThen_ok, Sem.run_pure, Int.toNat_natCast, e]
/-- 'x[:h]' -/
theorem sl_h (hw : Region.wanted o (yielded ops a.tmps) = true) {t : TypeId} {x z : Operand} (ho : o.op = .slice t x none (some z) none) {g off n cap h sz : Nat}
    (hx : a.eval x = .slice (some ⟨g, off, none⟩) n cap) (hz : a.eval z = .int .i64 (h : Int))
    (ht : P.underlying t = some (.slice (P.elem t))) (hs : (sizeOf (P.elem t)).run P w = .ok sz w) (h2 : h ≤ cap)
    (hK : wpList P ops Q rest (a.put o.dst (.slice (some ⟨g, off, none⟩) h cap)) w) : wpList P ops Q (o :: rest) a w := by
  refine valS hw _ ?_ hK
  unfold execOp
  simp only [ho, hx, hz, Option.map_some, Option.map_none, Sem.run_bind, run_sliceAt_slice w t _ _ _ _ ht, run_slice_h w t (some ⟨g, off, none⟩) n cap ht _ (h : Int) (by omega) (by omega), hs, Result.andThen_ok, Sem.run_pure, Int.toNat_natCast, sliced, Nat.zero_mul, Option.map_some, Addr.add_mid, Nat.add_zero, ite_self, Nat.sub_zero]
end
end Go.Proofs.Ytodmhohccclhmaa
