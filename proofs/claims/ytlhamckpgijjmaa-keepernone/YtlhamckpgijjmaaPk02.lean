/-
  append onto a slice of the call's own, from whatever source; what it leaves, in one step. Nothing here names the program.
  Slices of slices, at one operation: whatever the bounds, no part of the walk. Nothing here names the program.
  Plain facts on whole numbers that are divided downwards; no program in sight.
-/
import Derived.WalkKit
import Derived.Below
import Derived.Laws.AppendOwn
import Derived.Laws.OwnMore
import Derived.Maps.AppendAt
import Derived.Laws.Slices
import Derived.Deep.MidRow
import Derived.Laws.Bits64
namespace Go.Proofs.Ytlhamckpgijjmaa
open Go.RowKit
set_option linter.unusedVariables false

section
variable {P : Program}
theorem append_none (w : World) (base : Nat) (t ty e : TypeId) (i : TypeInfo) (size c : Nat) (ht : P.underlying t = some (.slice e)) (hi : P.info? e = some i)
    (v : Value) (n : Nat) (xs : List Value) (hown : w.ownsRow base e size v n xs) : (Builtin.append_ #[t, t] ty #[v, .slice none 0 c]).run P w = .ok v w := by
  rcases hown.2 with ⟨rfl, rfl⟩ | ⟨g, cap, cur, rfl, _, _, hnc, _⟩
  · simp [Builtin.append_, run_underlying ht, sizeOf, typeInfo, hi, Builtin.lenOf, Builtin.firstCells]
  · simp [Builtin.append_, run_underlying ht, sizeOf, typeInfo, hi, Builtin.lenOf, Builtin.firstCells, hnc, storeCells]
theorem app_own {ops : Array Oper} {rest : List Oper} {o : Oper} {a : Act} {w : World} {Q : Exit → Act → World → Prop} (A : World) (hgd : o.guard = none) {s x : Operand} {t : TypeId}
    (ho : o.op = .call { callee := .builtin .append, args := #[s, x], argTypes := #[t, t] })
    {e : TypeId} {z : Value} {size bytes : Nat} (ht : P.underlying t = some (.slice e)) (hinf : (P.info? e).map (fun i => (i.zero, i.size, i.bytes)) = some (some z, size, bytes)) (hzs : z.cells.size = size) (hsz : 0 < size)
    {v : Value} {n : Nat} {xs : List Value} (hs : a.eval s = v) (hown : w.ownsRow A.heap.size e size v n xs)
    {q : Option Addr} {m c : Nat} (news : List Value) (hx : a.eval x = .slice q m c) (hq : q = none → m = 0) (hl : news.length = m * size) (hnews : ∀ ad, q = some ad → ∀ j u, news[j]? = some u → w.cell? (ad.add j) = some u) (h1 : ∀ u ∈ news, u.oneCell' = true)
    (h63 : n + m ≤ maxLen) (hbytes : (n + m) * bytes ≤ 140737488355328) (hA : Below A.heap.size A w)
    (h : ∀ v' w', w'.ownsRow A.heap.size e size v' (n + m) (xs ++ news) → (v' = .slice none 0 0 ↔ v = .slice none 0 0 ∧ m = 0) → Below A.heap.size A w' → w.grownBy w' v.ownBlock → wpList P ops Q rest (a.put o.dst v') w') : wpList P ops Q (o :: rest) a w := by
  obtain ⟨i, hi, hz0, hz1, hz2⟩ := info_parts hinf
  cases q with
  | some ad =>
    refine wpList_append_own w hgd s x t ho A.heap.size e i z size bytes ht hi hz0 hz1 hz2 hzs hsz v n xs hs hown ad m c news hx hl (hnews ad rfl) h1 h63 hbytes hA.size fun v' w' hown' hgrow hnil => ?_
    refine h v' w' hown' hnil ?_ hgrow
    refine hA.grown hgrow hA.size (fun r hr => ?_)
    rcases hown.2 with ⟨rfl, _⟩ | ⟨g', cap', cur', rfl, hbg, _⟩
    · cases hr
    · cases hr; exact hbg
  | none =>
    have hm := hq rfl
    subst hm
    have hnn : news = [] := List.eq_nil_of_length_eq_zero (by simpa using hl)
    subst hnn
    have hrun := append_none (P := P) w A.heap.size t o.type e i size c ht hi v n xs hown
    refine wpList_plain hgd fun K hK => ?_
    unfold Oper.wp execOp
    simp only [ho, resolve, invoke, builtin, Sem.run_bind, Sem.run_pure, Result.andThen_ok, List.map_toArray, List.map_cons, List.map_nil, hs, hx, hrun]
    exact hK _ _ (h v w (by simpa using hown) (by simp) hA ⟨rfl, rfl, rfl, Nat.le_refl _, fun _ _ _ => rfl⟩)
/-- The same at one operation, for regions that draw their order. -/
theorem appW {o : Oper} {a : Act} {w : World} {K : Act → World → Prop} {Q : Exit → Act → World → Prop} (A : World) (dst : Option Tmp) (hd : o.dst = dst) {s x : Operand} {t : TypeId}
    (ho : o.op = .call { callee := .builtin .append, args := #[s, x], argTypes := #[t, t] })
    {e : TypeId} {z : Value} {size bytes : Nat} (ht : P.underlying t = some (.slice e)) (hinf : (P.info? e).map (fun i => (i.zero, i.size, i.bytes)) = some (some z, size, bytes)) (hzs : z.cells.size = size) (hsz : 0 < size)
    {v : Value} {n : Nat} {xs : List Value} (hs : a.eval s = v) (hown : w.ownsRow A.heap.size e size v n xs)
    {q : Option Addr} {m c : Nat} (news : List Value) (hx : a.eval x = .slice q m c) (hq : q = none → m = 0) (hl : news.length = m * size) (hnews : ∀ ad, q = some ad → ∀ j u, news[j]? = some u → w.cell? (ad.add j) = some u) (h1 : ∀ u ∈ news, u.oneCell' = true)
    (h63 : n + m ≤ maxLen) (hbytes : (n + m) * bytes ≤ 140737488355328) (hA : Below A.heap.size A w)
    (h : ∀ v' w', w'.ownsRow A.heap.size e size v' (n + m) (xs ++ news) → (v' = .slice none 0 0 ↔ v = .slice none 0 0 ∧ m = 0) → Below A.heap.size A w' → w.grownBy w' v.ownBlock → K (a.put dst v') w') : o.wp P a w K Q := by
  subst hd
  obtain ⟨i, hi, hz0, hz1, hz2⟩ := info_parts hinf
  cases q with
  | some ad =>
    refine wp_append_own w s x t ho A.heap.size e i z size bytes ht hi hz0 hz1 hz2 hzs hsz v n xs hs hown ad m c news hx hl (hnews ad rfl) h1 h63 hbytes hA.size fun v' w' hown' hgrow hnil => ?_
    refine h v' w' hown' hnil ?_ hgrow
    refine hA.grown hgrow hA.size (fun r hr => ?_)
    rcases hown.2 with ⟨rfl, _⟩ | ⟨g', cap', cur', rfl, hbg, _⟩
    · cases hr
    · cases hr; exact hbg
  | none =>
    have hm := hq rfl
    subst hm
    have hnn : news = [] := List.eq_nil_of_length_eq_zero (by simpa using hl)
    subst hnn
    have hrun := append_none (P := P) w A.heap.size t o.type e i size c ht hi v n xs hown
    unfold Oper.wp execOp
    simp only [ho, resolve, invoke, builtin, Sem.run_bind, Sem.run_pure, Result.andThen_ok, List.map_toArray, List.map_cons, List.map_nil, hs, hx, hrun]
    exact h v w (by simpa using hown) (by simp) hA ⟨rfl, rfl, rfl, Nat.le_refl _, fun _ _ _ => rfl⟩
/-- The same at an operation of a list, guarded or not. -/
theorem app_ownG {ops : Array Oper} {rest : List Oper} {o : Oper} {a : Act} {w : World} {Q : Exit → Act → World → Prop} (A : World) (hw : Region.wanted o (yielded ops a.tmps) = true) {s x : Operand} {t : TypeId}
    (ho : o.op = .call { callee := .builtin .append, args := #[s, x], argTypes := #[t, t] })
    {e : TypeId} {z : Value} {size bytes : Nat} (ht : P.underlying t = some (.slice e)) (hinf : (P.info? e).map (fun i => (i.zero, i.size, i.bytes)) = some (some z, size, bytes)) (hzs : z.cells.size = size) (hsz : 0 < size)
    {v : Value} {n : Nat} {xs : List Value} (hs : a.eval s = v) (hown : w.ownsRow A.heap.size e size v n xs)
    {q : Option Addr} {m c : Nat} (news : List Value) (hx : a.eval x = .slice q m c) (hq : q = none → m = 0) (hl : news.length = m * size) (hnews : ∀ ad, q = some ad → ∀ j u, news[j]? = some u → w.cell? (ad.add j) = some u) (h1 : ∀ u ∈ news, u.oneCell' = true)
    (h63 : n + m ≤ maxLen) (hbytes : (n + m) * bytes ≤ 140737488355328) (hA : Below A.heap.size A w)
    (h : ∀ v' w', w'.ownsRow A.heap.size e size v' (n + m) (xs ++ news) → (v' = .slice none 0 0 ↔ v = .slice none 0 0 ∧ m = 0) → Below A.heap.size A w' → w.grownBy w' v.ownBlock → wpList P ops Q rest (a.put o.dst v') w') : wpList P ops Q (o :: rest) a w := by
  unfold wpList
  rw [if_pos hw]
  left
  exact appW A o.dst rfl ho ht hinf hzs hsz hs hown news hx hq hl hnews h1 h63 hbytes hA h
/-- A new empty slice of the call's own. -/
theorem own_empty (w : World) (A : World) (e : TypeId) (size : Nat) (h : A.heap.size ≤ w.heap.size) : (w.alloc (.cells #[] e)).ownsRow A.heap.size e size (.slice (some ⟨w.heap.size, 0, none⟩) 0 0) 0 [] :=
  ⟨by simp, .inr ⟨w.heap.size, 0, #[], rfl, h, by show (w.heap.push _)[w.heap.size]? = _; simp, by omega, by omega, by simp, by simp⟩⟩
theorem own_keep {W W' : World} {base e size n : Nat} {v : Value} {xs : List Value} (h : W.ownsRow base e size v n xs) (hb : Below W.heap.size W W') : W'.ownsRow base e size v n xs := by
  refine ⟨h.1, ?_⟩
  rcases h.2 with h2 | ⟨g, cap, cur, h1, h2, hg, h3⟩
  · exact .inl h2
  · exact .inr ⟨g, cap, cur, h1, h2, (hb.block g (Array.getElem?_eq_some_iff.1 hg).1).trans hg, h3⟩
/-- The cells of a row that the call owns. -/
theorem own_cells {W : World} {base e size n : Nat} {v : Value} {xs : List Value} (h : W.ownsRow base e size v n xs) (hv : v ≠ .slice none 0 0) :
    ∃ g cap, v = .slice (some ⟨g, 0, none⟩) n cap ∧ base ≤ g ∧ g < W.heap.size ∧ n ≤ cap ∧ cap ≤ maxLen ∧ ∀ j u, xs[j]? = some u → W.cell? ⟨g, j, none⟩ = some u := by
  obtain ⟨h1, h2⟩ := h
  rcases h2 with ⟨h2, _⟩ | ⟨g, cap, cur, rfl, hb, hg, hnc, hcm, hcs, ht⟩
  · exact absurd h2 hv
  · refine ⟨g, cap, rfl, hb, (Array.getElem?_eq_some_iff.1 hg).1, hnc, hcm, fun j u hu => ?_⟩
    have hj : j < xs.length := (List.getElem?_eq_some_iff.1 hu).1
    rw [cell_of_row W g j cur e (0, 0) hg]
    rw [← ht, List.getElem?_take_of_lt (by omega)] at hu
    simpa using hu
end
theorem own_at {W W' : World} {base n e size : Nat} {v : Value} {xs : List Value} (h : W.ownsRow base e size v n xs) (he : ∀ g, v.ownBlock = some g → W'.heap[g]? = W.heap[g]?) : W'.ownsRow base e size v n xs := by
  refine ⟨h.1, ?_⟩
  rcases h.2 with h2 | ⟨g, cap, cur, rfl, hb, hg, h4⟩
  · exact .inl h2
  · exact .inr ⟨g, cap, cur, rfl, hb, (he g rfl).trans hg, h4⟩
/-- Two slices whose blocks differ. -/
def Sep (a b : Value) : Prop := ∀ k, a.ownBlock = some k → b.ownBlock ≠ some k
theorem Sep.symm {a b : Value} (h : Sep a b) : Sep b a := fun k hk he => h k he hk
theorem sep_lt {a b : Value} {m : Nat} (h : ∀ k, a.ownBlock = some k → k < m) (g : ∀ k, b.ownBlock = some k → m ≤ k) : Sep a b := fun k hk he => by
  have := h k hk; have := g k he; omega
theorem Sep.row {a b : Value} (h : Sep a b) : a.ownBlock = none ∨ a.ownBlock ≠ b.ownBlock := by
  cases ha : a.ownBlock with
  | none => exact .inl rfl
  | some k => exact .inr (fun e => h k ha e.symm)
/-- Own rows of unlike things lie apart. -/
theorem sep_ty {W : World} {b b' n m e e' s s' : Nat} {v u : Value} {xs ys : List Value} (h : W.ownsRow b e s v n xs) (k : W.ownsRow b' e' s' u m ys) (hn : e ≠ e') : Sep v u := by
  intro g hg hu
  rcases h.2 with ⟨h2, _⟩ | ⟨g1, cap, cur, h2, hb, hg1, _⟩
  · rw [h2] at hg; cases hg
  · rcases k.2 with ⟨k2, _⟩ | ⟨g2, cap2, cur2, k2, kb, kg2, _⟩
    · rw [k2] at hu; cases hu
    · rw [h2] at hg
      rw [k2] at hu
      have e1 : g1 = g := by simpa [Value.ownBlock] using hg
      have e2 : g2 = g := by simpa [Value.ownBlock] using hu
      subst e1
      subst e2
      rw [hg1] at kg2
      cases kg2
      exact hn rfl
theorem below_ownE {w w' : World} {base n e s : Nat} {v : Value} {xs : List Value} (h : w.ownsRow base e s v n xs) (hA : base ≤ w.heap.size) (hg : w.grownBy w' v.ownBlock) : Below base w w' :=
  (Below.refl _ _).grown hg hA (fun r hr => (h.lt r hr).1)
end Go.Proofs.Ytlhamckpgijjmaa
namespace Go.Proofs.Ytlhamckpgijjmaa
open Go.RowKit
set_option linter.unusedVariables false

section
variable {P : Program} {ops : Array Oper} {rest : List Oper} {o : Oper} {a : Act} {w : World} {Q : Exit → Act → World → Prop}
theorem valS (hw : Region.wanted o (yielded ops a.tmps) = true) (v : Value) (hr : (execOp a.eval o).run P w = .ok (.value v) w) (h : wpList P ops Q rest (a.put o.dst v) w) : wpList P ops Q (o :: rest) a w := by
  unfold wpList
  rw [if_pos hw]
  left
  unfold Oper.wp
  rw [hr, Oper.upon_value]
  exact h
theorem sliced_some (g off l h m s : Nat) : ∃ o', sliced (some ⟨g, off, none⟩) l h m s = .slice (some ⟨g, o', none⟩) (h - l) (m - l) ∧ (l < m → o' = off + l * s) := by
  unfold sliced
  by_cases c : m = l
  · exact ⟨off, by rw [if_pos c], fun h => absurd c (by omega)⟩
  · exact ⟨off + l * s, by rw [if_neg c, Option.map_some, Addr.add_mid], fun _ => rfl⟩
/-- 'x[l:]', its run. -/
theorem slo_l {ρ : Operand → Value} {t : TypeId} {x y : Operand} (ho : o.op = .slice t x (some y) none none) {g off n cap l sz o' : Nat} {L : Int}
    (hx : ρ x = .slice (some ⟨g, off, none⟩) n cap) (hy : ρ y = .int .i64 L) (hL : L = (l : Int))
    (ht : P.underlying t = some (.slice (P.elem t))) (hs : (sizeOf (P.elem t)).run P w = .ok sz w) (h1 : l ≤ n) (h2 : n ≤ cap)
    (e : sliced (some ⟨g, off, none⟩) l n cap sz = .slice (some ⟨g, o', none⟩) (n - l) (cap - l)) : (execOp ρ o).run P w = .ok (.value (.slice (some ⟨g, o', none⟩) (n - l) (cap - l))) w := by
  subst hL
  unfold execOp
  simp only [ho, hx, hy, Option.map_some, Option.map_none, Sem.run_bind, run_sliceAt_slice w t _ _ _ _ ht, run_slice_l w t (some ⟨g, off, none⟩) n cap ht _ (l : Int) (by omega) (by omega), hs, Result.andThen_ok, Sem.run_pure, Int.toNat_natCast, e]
/-- 'x[:h]', its run. -/
theorem slo_h {ρ : Operand → Value} {t : TypeId} {x z : Operand} (ho : o.op = .slice t x none (some z) none) {g off n cap h sz : Nat} {J : Int}
    (hx : ρ x = .slice (some ⟨g, off, none⟩) n cap) (hz : ρ z = .int .i64 J) (hJ : J = (h : Int))
    (ht : P.underlying t = some (.slice (P.elem t))) (hs : (sizeOf (P.elem t)).run P w = .ok sz w) (h2 : h ≤ cap) : (execOp ρ o).run P w = .ok (.value (.slice (some ⟨g, off, none⟩) h cap)) w := by
  subst hJ
  unfold execOp
  simp only [ho, hx, hz, Option.map_some, Option.map_none, Sem.run_bind, run_sliceAt_slice w t _ _ _ _ ht, run_slice_h w t (some ⟨g, off, none⟩) n cap ht _ (h : Int) (by omega) (by omega), hs, Result.andThen_ok, Sem.run_pure, Int.toNat_natCast, sliced, Nat.zero_mul, Option.map_some, Addr.add_mid, Nat.add_zero, ite_self, Nat.sub_zero]
/-- 'x[l:h]' -/
theorem sl_lh (hw : Region.wanted o (yielded ops a.tmps) = true) {t : TypeId} {x y z : Operand} (ho : o.op = .slice t x (some y) (some z) none) {g off n cap l h sz : Nat}
    (hx : a.eval x = .slice (some ⟨g, off, none⟩) n cap) (hy : a.eval y = .int .i64 (l : Int)) (hz : a.eval z = .int .i64 (h : Int))
    (ht : P.underlying t = some (.slice (P.elem t))) (hs : (sizeOf (P.elem t)).run P w = .ok sz w) (h1 : l ≤ h) (h2 : h ≤ cap)
    (hK : ∀ o' cp, (0 < h - l → o' = off + l * sz) → cp = cap - l → wpList P ops Q rest (a.put o.dst (.slice (some ⟨g, o', none⟩) (h - l) cp)) w) : wpList P ops Q (o :: rest) a w := by
  obtain ⟨o', e, f⟩ := sliced_some g off l h cap sz
  refine valS hw _ ?_ (hK o' (cap - l) (fun h0 => f (by omega)) rfl)
  unfold execOp
  simp only [ho, hx, hy, hz, Option.map_some, Option.map_none, Sem.run_bind, run_sliceAt_slice w t _ _ _ _ ht, run_slice_lh w t (some ⟨g, off, none⟩) n cap ht _ _ (l : Int) (h : Int) (by omega) (by omega) (by omega), hs, Result.andThen_ok, Sem.run_pure, Int.toNat_natCast, e]
/-- 'x[l:]' -/
theorem sl_l (hw : Region.wanted o (yielded ops a.tmps) = true) {t : TypeId} {x y : Operand} (ho : o.op = .slice t x (some y) none none) {g off n cap l sz : Nat}
    (hx : a.eval x = .slice (some ⟨g, off, none⟩) n cap) (hy : a.eval y = .int .i64 (l : Int))
    (ht : P.underlying t = some (.slice (P.elem t))) (hs : (sizeOf (P.elem t)).run P w = .ok sz w) (h1 : l ≤ n) (h2 : n ≤ cap)
    (hK : ∀ o' cp, (0 < n - l → o' = off + l * sz) → cp = cap - l → wpList P ops Q rest (a.put o.dst (.slice (some ⟨g, o', none⟩) (n - l) cp)) w) : wpList P ops Q (o :: rest) a w := by
  obtain ⟨o', e, f⟩ := sliced_some g off l n cap sz
  refine valS hw _ ?_ (hK o' (cap - l) (fun h0 => f (by omega)) rfl)
  unfold execOp
  simp only [ho, hx, hy, Option.map_some, Option.map_none, Sem.run_bind, run_sliceAt_slice w t _ _ _ _ ht, run_slice_l w t (some ⟨g, off, none⟩) n cap ht _ (l : Int) (by omega) (by omega), hs, Result.andThen_ok, Sem.run_pure, Int.toNat_natCast, e]
/-- 'x[:h]' -/
theorem sl_h (hw : Region.wanted o (yielded ops a.tmps) = true) {t : TypeId} {x z : Operand} (ho : o.op = .slice t x none (some z) none) {g off n cap h sz : Nat}
    (hx : a.eval x = .slice (some ⟨g, off, none⟩) n cap) (hz : a.eval z = .int .i64 (h : Int))
    (ht : P.underlying t = some (.slice (P.elem t))) (hs : (sizeOf (P.elem t)).run P w = .ok sz w) (h2 : h ≤ cap)
    (hK : wpList P ops Q rest (a.put o.dst (.slice (some ⟨g, off, none⟩) h cap)) w) : wpList P ops Q (o :: rest) a w := by
  refine valS hw _ ?_ hK
  unfold execOp
  simp only [ho, hx, hz, Option.map_some, Option.map_none, Sem.run_bind, run_sliceAt_slice w t _ _ _ _ ht, run_slice_h w t (some ⟨g, off, none⟩) n cap ht _ (h : Int) (by omega) (by omega), hs, Result.andThen_ok, Sem.run_pure, Int.toNat_natCast, sliced, Nat.zero_mul, Option.map_some, Addr.add_mid, Nat.add_zero, ite_self, Nat.sub_zero]
end
end Go.Proofs.Ytlhamckpgijjmaa
namespace Go.Proofs.Ytlhamckpgijjmaa

theorem ret_int {k : IntKind} {a b : Int} (h : a = b) : Ending.returned (.int k a) = .returned (.int k b) := by rw [h]
theorem ret_bool {a b : Bool} (h : a = b) : Ending.returned (.bool a) = .returned (.bool b) := by rw [h]

theorem tdiv_fl (t r : Int) (g0 : 1 ≤ r) : t.tdiv r + (if t.tmod r < 0 then -1 else 0) = t / r := by
  rw [Int.tdiv_eq_ediv, Int.tmod_eq_emod]
  have hs : r.sign = 1 := Int.sign_eq_one_of_pos (by omega)
  have h3 := Int.emod_nonneg t (b := r) (by omega)
  have h4 := Int.emod_lt_of_pos t (b := r) (by omega)
  have h6 : r ∣ t ↔ t % r = 0 := Int.dvd_iff_emod_eq_zero
  rw [hs]
  by_cases c : 0 ≤ t ∨ r ∣ t
  · rw [if_pos c, if_pos c]
    have : ¬ (t % r - (0 : Nat) < 0) := by omega
    simp only [this, if_false]; simp
  · rw [if_neg c, if_neg c]
    have : (t % r - (r.natAbs : Nat) < 0) := by omega
    simp only [this, if_true]; omega

theorem tmod_fl (t r : Int) (g0 : 1 ≤ r) : t % r = if t.tmod r < 0 then t.tmod r + r else t.tmod r := by
  rw [Int.tmod_eq_emod]
  have h3 := Int.emod_nonneg t (b := r) (by omega)
  have h4 := Int.emod_lt_of_pos t (b := r) (by omega)
  have h6 : r ∣ t ↔ t % r = 0 := Int.dvd_iff_emod_eq_zero
  by_cases c : 0 ≤ t ∨ r ∣ t
  · rw [if_pos c]
    have : ¬ (t % r - (0 : Nat) < 0) := by omega
    simp only [this, if_false]; simp
  · rw [if_neg c]
    have : (t % r - (r.natAbs : Nat) < 0) := by omega
    simp only [this, if_true]; omega

theorem tmod_bd (t r : Int) (g0 : 1 ≤ r) : - r < t.tmod r ∧ t.tmod r < r := by
  have h3 := Int.emod_nonneg t (b := r) (by omega)
  have h4 := Int.emod_lt_of_pos t (b := r) (by omega)
  have h := tmod_fl t r g0
  have hz : t.tmod r ≠ 0 → ¬ (0 ≤ t ∨ r ∣ t) → t.tmod r < 0 := by
    intro _ c; rw [Int.tmod_eq_emod, if_neg c]; omega
  rw [Int.tmod_eq_emod] at *
  have h6 : r ∣ t ↔ t % r = 0 := Int.dvd_iff_emod_eq_zero
  by_cases c : 0 ≤ t ∨ r ∣ t
  · rw [if_pos c]; simp; omega
  · rw [if_neg c]; omega

theorem ediv_bd (t r : Int) (g0 : 1 ≤ r) : (0 ≤ t → 0 ≤ t / r ∧ t / r ≤ t) ∧ (t < 0 → t ≤ t / r ∧ t / r < 0) := by
  refine ⟨fun h => ⟨Int.ediv_nonneg h (by omega), Int.ediv_le_self _ h⟩, fun h => ⟨?_, Int.ediv_neg_of_neg_of_pos h (by omega)⟩⟩
  refine Int.le_ediv_of_mul_le (by omega) ?_
  have : t * (r - 1) ≤ 0 := Int.mul_nonpos_of_nonpos_of_nonneg (by omega) (by omega)
  rw [Int.mul_sub] at this; omega

theorem ediv_mono (t u r : Int) (g0 : 1 ≤ r) (h : t ≤ u) : t / r ≤ u / r := Int.ediv_le_ediv (by omega) h

theorem wrap_i64 (n : Int) : IntKind.i64.wrap n = (n + 9223372036854775808) % 18446744073709551616 - 9223372036854775808 := by
  simp only [IntKind.wrap, IntKind.bits, IntKind.signed]; simp; split <;> omega
theorem ofInt_nat (r : Int) : ((BitVec.ofInt 64 r).toNat : Int) = r % 18446744073709551616 := by
  rw [BitVec.toNat_ofInt]; simp; omega
theorem and_m1 (r : Int) (h0 : -9223372036854775808 ≤ r) (h1 : r ≤ 9223372036854775807) : bits .and .i64 r (-1) = r := by
  have e : (BitVec.ofInt 64 (-1)) = BitVec.allOnes 64 := by decide
  show IntKind.i64.wrap ((BitVec.ofInt 64 r &&& BitVec.ofInt 64 (-1)).toNat : Int) = _
  rw [e, BitVec.and_allOnes, ofInt_nat, wrap_i64]; omega
theorem and_0 (r : Int) : bits .and .i64 r 0 = 0 := by
  have e : (BitVec.ofInt 64 0) = 0#64 := by decide
  show IntKind.i64.wrap ((BitVec.ofInt 64 r &&& BitVec.ofInt 64 0).toNat : Int) = _
  rw [e, BitVec.and_zero, wrap_i64]; simp
theorem xor_0 (r : Int) (h0 : -9223372036854775808 ≤ r) (h1 : r ≤ 9223372036854775807) : bits .xor .i64 r 0 = r := by
  have e : (BitVec.ofInt 64 0) = 0#64 := by decide
  show IntKind.i64.wrap ((BitVec.ofInt 64 r ^^^ BitVec.ofInt 64 0).toNat : Int) = _
  rw [e, BitVec.xor_zero, ofInt_nat, wrap_i64]; omega
theorem xor_m1 (r : Int) (h0 : -9223372036854775808 ≤ r) (h1 : r ≤ 9223372036854775807) : bits .xor .i64 r (-1) = - r - 1 := by
  have e : (BitVec.ofInt 64 (-1)) = BitVec.allOnes 64 := by decide
  show IntKind.i64.wrap ((BitVec.ofInt 64 r ^^^ BitVec.ofInt 64 (-1)).toNat : Int) = _
  have h := ofInt_nat r
  rw [e, BitVec.xor_allOnes, BitVec.toNat_not, wrap_i64]; omega
theorem not_i64 (r : Int) (h0 : -9223372036854775808 ≤ r) (h1 : r ≤ 9223372036854775807) : bits .xor .i64 (-1) r = - r - 1 := by
  have e : (BitVec.ofInt 64 (-1)) = BitVec.allOnes 64 := by decide
  show IntKind.i64.wrap ((BitVec.ofInt 64 (-1) ^^^ BitVec.ofInt 64 r).toNat : Int) = _
  have h := ofInt_nat r
  rw [e, BitVec.allOnes_xor, BitVec.toNat_not, wrap_i64]; omega
theorem not_u64 (r : Int) (h0 : 0 ≤ r) (h1 : r ≤ 18446744073709551615) : bits .xor .u64 18446744073709551615 r = 18446744073709551615 - r := by
  have e : (BitVec.ofInt 64 18446744073709551615) = BitVec.allOnes 64 := by decide
  show IntKind.u64.wrap ((BitVec.ofInt 64 18446744073709551615 ^^^ BitVec.ofInt 64 r).toNat : Int) = _
  have h := ofInt_nat r
  rw [e, BitVec.allOnes_xor, BitVec.toNat_not, IntKind.wrap_u64]; omega
theorem and_mask (t : Int) (s : Nat) (hs : s < 63) : bits .and .i64 t ((2 : Int) ^ s - 1) = t % (2 : Int) ^ s := by
  have hp : (2 : Nat) ^ s ≤ 2 ^ 62 := Nat.pow_le_pow_right (by omega) (by omega)
  have h1p : 0 < (2 : Nat) ^ s := Nat.pow_pos (by omega)
  have ec : ((2 : Int) ^ s) = (((2 : Nat) ^ s : Nat) : Int) := by simp
  have e2 : (BitVec.ofInt 64 ((2 : Int) ^ s - 1)).toNat = 2 ^ s - 1 := by
    have := ofInt_nat ((2 : Int) ^ s - 1)
    rw [ec] at this ⊢; omega
  show IntKind.i64.wrap ((BitVec.ofInt 64 t &&& BitVec.ofInt 64 ((2 : Int) ^ s - 1)).toNat : Int) = _
  rw [BitVec.toNat_and, e2, Nat.and_two_pow_sub_one_eq_mod, wrap_i64, Int.natCast_emod, ofInt_nat, ← ec]
  have hd : ((2 : Int) ^ s) ∣ 18446744073709551616 := ⟨(2 : Int) ^ (64 - s), by rw [← Int.pow_add, show s + (64 - s) = 64 by omega]; rfl⟩
  rw [Int.emod_emod_of_dvd _ hd]
  have l1 := Int.emod_nonneg t (b := (2 : Int) ^ s) (by rw [ec]; omega)
  have l2 := Int.emod_lt_of_pos t (b := (2 : Int) ^ s) (by rw [ec]; omega)
  rw [ec] at *; omega

/-- A wide number of its halves; the halves of a number (modulo 2^128, with a sign). -/
def wv (h l : Int) : Int := h * 18446744073709551616 + l
def wh (x : Int) : Int := (x / 18446744073709551616 + 9223372036854775808) % 18446744073709551616 - 9223372036854775808
def wl (x : Int) : Int := x % 18446744073709551616
theorem wh_bd (x : Int) : -9223372036854775808 ≤ wh x ∧ wh x ≤ 9223372036854775807 := by unfold wh; omega
theorem wl_bd (x : Int) : 0 ≤ wl x ∧ wl x ≤ 18446744073709551615 := by unfold wl; omega
theorem wh_wv (h l : Int) (h0 : -9223372036854775808 ≤ h) (h1 : h ≤ 9223372036854775807) (l0 : 0 ≤ l) (l1 : l ≤ 18446744073709551615) : wh (wv h l) = h ∧ wl (wv h l) = l := by unfold wh wl wv; omega
theorem wh_congr (x k : Int) : wh (x + 340282366920938463463374607431768211456 * k) = wh x ∧ wl (x + 340282366920938463463374607431768211456 * k) = wl x := by unfold wh wl; omega
theorem wv_back (x : Int) : ∃ k : Int, wv (wh x) (wl x) = x + 340282366920938463463374607431768211456 * k :=
  ⟨- ((x / 18446744073709551616 + 9223372036854775808) / 18446744073709551616), by unfold wv wh wl; omega⟩
theorem wv_bd (h l : Int) (h0 : -9223372036854775808 ≤ h) (h1 : h ≤ 9223372036854775807) (l0 : 0 ≤ l) (l1 : l ≤ 18446744073709551615) : -170141183460469231731687303715884105728 ≤ wv h l ∧ wv h l < 170141183460469231731687303715884105728 := by unfold wv; omega
theorem wv_same (x : Int) (h0 : -170141183460469231731687303715884105728 ≤ x) (h1 : x < 170141183460469231731687303715884105728) : wv (wh x) (wl x) = x := by unfold wv wh wl; omega

/-- A number's sign, in all bits. -/
def sgn (n : Int) : Int := if n < 0 then -1 else 0
theorem sgn_bd (n : Int) : -1 ≤ sgn n ∧ sgn n ≤ 0 := by unfold sgn; split <;> omega
/-- A time's window, and where a time lies in it. -/
def flD (t r : Int) : Int := if r < 1 then 0 else t / r
def flM (t r : Int) : Int := if r < 1 then 0 else t % r
theorem flD_bd (t r : Int) (h0 : -9223372036854775808 ≤ t) (h1 : t ≤ 9223372036854775807) : -9223372036854775808 ≤ flD t r ∧ flD t r ≤ 9223372036854775807 := by
  unfold flD; split
  · omega
  · have h := ediv_bd t r (by omega); omega
theorem flM_bd (t r : Int) (g1 : r ≤ 9223372036854775807) : 0 ≤ flM t r ∧ flM t r ≤ 9223372036854775807 := by
  unfold flM; split
  · omega
  · have h3 := Int.emod_nonneg t (b := r) (by omega)
    have h4 := Int.emod_lt_of_pos t (b := r) (by omega)
    omega
end Go.Proofs.Ytlhamckpgijjmaa
