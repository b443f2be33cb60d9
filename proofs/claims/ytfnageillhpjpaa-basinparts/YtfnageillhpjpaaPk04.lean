/-
  Slices of slices, at one operation: whatever the bounds, no part of the walk. Nothing here names the program.
-/
import Derived.WalkKit
import Derived.Below
import Derived.Laws.Slices
import Derived.Deep.MidRow
namespace Go.Proofs.Ytfnageillhpjpaa
set_option maxRecDepth 100000
open Go.RowKit
set_option linter.unusedVariables false

section
variable {P : Program} {ops : Array Oper} {rest : List Oper} {o : Oper} {a : Act} {w : World} {Q : Exit → Act → World → Prop}
theorem valS (hw : Region.wanted o (yielded ops a.tmps) = true) (v : Value) (hr : (execOp a.eval o).run P w = .ok (.value v) w) (h : wpList P ops Q rest (a.put o.dst v) w) : wpList P ops Q (o :: rest) a w := by
  unfold wpList
  rw [if_pos hw]
  left
  unfold Oper.wp
  rw [hr, Oper.upon_value]
  exact h
theorem sliced_some (g off l h m s : Nat) : ∃ o', sliced (some ⟨g, off, none⟩) l h m s = .slice (some ⟨g, o', none⟩) (h - l) (m - l) ∧ (l < m → o' = off + l * s) := by
  unfold sliced
  by_cases c : m = l
  · exact ⟨off, by rw [if_pos c], fun h => absurd c (by omega)⟩
  · exact ⟨off + l * s, by rw [if_neg c, Option.map_some, Addr.add_mid], fun _ => rfl⟩
/-- 'x[l:]', its run. -/
theorem slo_l {ρ : Operand → Value} {t : TypeId} {x y : Operand} (ho : o.op = .slice t x (some y) none none) {g off n cap l sz o' : Nat} {L : Int}
    (hx : ρ x = .slice (some ⟨g, off, none⟩) n cap) (hy : ρ y = .int .i64 L) (hL : L = (l : Int))
    (ht : P.underlying t = some (.slice (P.elem t))) (hs : (sizeOf (P.elem t)).run P w = .ok sz w) (h1 : l ≤ n) (h2 : n ≤ cap)
    (e : sliced (some ⟨g, off, none⟩) l n cap sz = .slice (some ⟨g, o', none⟩) (n - l) (cap - l)) : (execOp ρ o).run P w = .ok (.value (.slice (some ⟨g, o', none⟩) (n - l) (cap - l))) w := by
  subst hL
  unfold execOp
  simp only [ho, hx, hy, Option.map_some, Option.map_none, Sem.run_bind, run_sliceAt_slice w t _ _ _ _ ht, run_slice_l w t (some ⟨g, off, none⟩) n cap ht _ (l : Int) (by omega) (by omega), hs, Result.andThen_ok, Sem.run_pure, Int.toNat_natCast, e]
/-- 'x[:h]', its run. -/
theorem slo_h {ρ : Operand → Value} {t : TypeId} {x z : Operand} (ho : o.op = .slice t x none (some z) none) {g off n cap h sz : Nat} {J : Int}
    (hx : ρ x = .slice (some ⟨g, off, none⟩) n cap) (hz : ρ z = .int .i64 J) (hJ : J = (h : Int))
    (ht : P.underlying t = some (.slice (P.elem t))) (hs : (sizeOf (P.elem t)).run P w = .ok sz w) (h2 : h ≤ cap) : (execOp ρ o).run P w = .ok (.value (.slice (some ⟨g, off, none⟩) h cap)) w := by
  subst hJ
  unfold execOp
  simp only [ho, hx, hz, Option.map_some, Option.map_none, Sem.run_bind, run_sliceAt_slice w t _ _ _ _ ht, run_slice_h w t (some ⟨g, off, none⟩) n cap ht _ (h : Int) (by omega) (by omega), hs, Result.andThen_ok, Sem.run_pure, Int.toNat_natCast, sliced, Nat.zero_mul, Option.map_some, Addr.add_mid, Nat.add_zero, ite_self, Nat.sub_zero]
/-- 'x[l:h]' -/
theorem sl_lh (hw : Region.wanted o (yielded ops a.tmps) = true) {t : TypeId} {x y z : Operand} (ho : o.op = .slice t x (some y) (some z) none) {g off n cap l h sz : Nat}
    (hx : a.eval x = .slice (some ⟨g, off, none⟩) n cap) (hy : a.eval y = .int .i64 (l : Int)) (hz : a.eval z = .int .i64 (h : Int))
    (ht : P.underlying t = some (.slice (P.elem t))) (hs : (sizeOf (P.elem t)).run P w = .ok sz w) (h1 : l ≤ h) (h2 : h ≤ cap)
    (hK : ∀ o' cp, (0 < h - l → o' = off + l * sz) → cp = cap - l → wpList P ops Q rest (a.put o.dst (.slice (some ⟨g, o', none⟩) (h - l) cp)) w) : wpList P ops Q (o :: rest) a w := by
  obtain ⟨o', e, f⟩ := sliced_some g off l h cap sz
  refine valS hw _ ?_ (hK o' (cap - l) (fun h0 => f (by omega)) rfl)
  unfold execOp
  simp only [ho, hx, hy, hz, Option.map_some, Option.map_none, Sem.run_bind, run_sliceAt_slice w t _ _ _ _ ht, run_slice_lh w t (some ⟨g, off, none⟩) n cap ht _ _ (l : Int) (h : Int) (by omega) (by omega) (by omega), hs, Result.andThen_ok, Sem.run_pure, Int.toNat_natCast, e]
/-- 'x[l:]' -/
theorem sl_l (hw : Region.wanted o (yielded ops a.tmps) = true) {t : TypeId} {x y : Operand} (ho : o.op = .slice t x (some y) none none) {g off n cap l sz : Nat}
    (hx : a.eval x = .slice (some ⟨g, off, none⟩) n cap) (hy : a.eval y = .int .i64 (l : Int))
    (ht : P.underlying t = some (.slice (P.elem t))) (hs : (sizeOf (P.elem t)).run P w = .ok sz w) (h1 : l ≤ n) (h2 : n ≤ cap)
    (hK : ∀ o' cp, (0 < n - l → o' = off + l * sz) → cp = cap - l → wpList P ops Q rest (a.put o.dst (.slice (some ⟨g, o', none⟩) (n - l) cp)) w) : wpList P ops Q (o :: rest) a w := by
  obtain ⟨o', e, f⟩ := sliced_some g off l n cap sz
  refine valS hw _ ?_ (hK o' (cap - l) (fun h0 => f (by omega)) rfl)
  unfold execOp
  simp only [ho, hx, hy, Option.map_some, Option.map_none, Sem.run_bind, run_sliceAt_slice w t _ _ _ _ ht, run_slice_l w t (some ⟨g, off, none⟩) n cap ht _ (l : Int) (by omega) (by omega), hs, Result.andThen_ok, Sem.run_pure, Int.toNat_natCast, e]
/-- 'x[:h]' -/
theorem sl_h (hw : Region.wanted o (yielded ops a.tmps) = true) {t : TypeId} {x z : Operand} (ho : o.op = .slice t x none (some z) none) {g off n cap h sz : Nat}
    (hx : a.eval x = .slice (some ⟨g, off, none⟩) n cap) (hz : a.eval z = .int .i64 (h : Int))
    (ht : P.underlying t = some (.slice (P.elem t))) (hs : (sizeOf (P.elem t)).run P w = .ok sz w) (h2 : h ≤ cap)
    (hK : wpList P ops Q rest (a.put o.dst (.slice (some ⟨g, off, none⟩) h cap)) w) : wpList P ops Q (o :: rest) a w := by
  refine valS hw _ ?_ hK
  unfold execOp
  simp only [ho, hx, hz, Option.map_some, Option.map_none, Sem.run_bind, run_sliceAt_slice w t _ _ _ _ ht, run_slice_h w t (some ⟨g, off, none⟩) n cap ht _ (h : Int) (by omega) (by omega), hs, Result.andThen_ok, Sem.run_pure, Int.toNat_natCast, sliced, Nat.zero_mul, Option.map_some, Addr.add_mid, Nat.add_zero, ite_self, Nat.sub_zero]
end
end Go.Proofs.Ytfnageillhpjpaa
