/-
  slices.Insert of one operation in the middle of a row that has no room.
-/
import Derived.Test.YteffpgodookebaaGreatPk39
import Derived.Lib.AppendZerosOnto
namespace Go.Proofs.YteffpgodookebaaGreat
open Go.RowKit
set_option linter.unusedVariables false
set_option maxRecDepth 100000

theorem zero_E {α : Type} (E : En α) (zz : α) (z : Array Value) (hz : z.toList = E.f zz) (n : Nat) : (Builtin.zeroCells z n).toList = E.fl (List.replicate n zz) := by
  have hs : z.size = E.k := by rw [← Array.length_toList, hz, E.len]
  rw [← made_E E zz z hz n]
  simp [Builtin.zeroCells, madeCells, hs]
/-- append of so many zeros onto a piece of a row, where there is no room. -/
theorem app_zeros (l : List Op5) (g cap i kz : Nat) (w : World) (ty : TypeId) (hR : Rw E5 49 w g cap l) (hi : i ≤ l.length) (hk : 0 < kz) (hg : cap < i + kz) (hs : i + kz ≤ 1000000) :
    ∃ c2 W', (Builtin.append_ #[42, 3] ty #[.slice (some ⟨g, 0, none⟩) i cap, .int .i64 (kz : Int)]).run Tryz.prog w = .ok (.slice (some ⟨w.heap.size, 0, none⟩) (i + kz) c2) W' ∧ Rw E5 49 W' w.heap.size c2 (l.take i ++ List.replicate kz zOp) ∧ Below w.heap.size w W' := by
  obtain ⟨ti, hti, hz0, hz1, hz2⟩ := info_parts infoOp5
  have hlen : (E5.fl (l.take i)).length = i * 5 := by rw [E5.fl_len, List.length_take, Nat.min_eq_left hi]; rfl
  have hld := run_loadCells_list (P := Tryz.prog) w.drew ⟨g, 0, none⟩ (E5.fl (l.take i)) (by
    intro j v hj
    rw [Addr.add_mid, Nat.zero_add]
    obtain ⟨h1, h2, cur, hB, hcs, ht⟩ := hR
    have hBd : Blk w.drew g cur 49 := hB
    rw [hBd.cell]
    have hjl := (List.getElem?_eq_some_iff.1 hj).1
    rw [hlen] at hjl
    rw [← E5.fl_take, ← ht, List.take_take, List.getElem?_take_of_lt (by
      have : i * E5.k ≤ l.length * E5.k := Nat.mul_le_mul_right _ hi
      rw [Nat.min_eq_left this]; exact hjl)] at hj
    simpa using hj)
  have hold : (Builtin.firstCells ti.size i (.slice (some ⟨g, 0, none⟩) i cap)).run Tryz.prog w.drew = .ok (E5.fl (l.take i)).toArray w.drew := by
    show (loadCells ⟨g, 0, none⟩ (i * ti.size)).run Tryz.prog w.drew = _
    rw [hz1, ← hlen]; exact hld
  have hr := Lib.run_append_grow_zeros (P := Tryz.prog) w 42 3 ty 49 ti _ .i64 .i64 Tryz.underlying42 Tryz.underlying3 hti hz0 (some ⟨g, 0, none⟩) i cap (E5.fl (l.take i)) hold kz hk (by rw [hz1]; omega) hg (by omega) (by rw [hz2]; omega) (by rw [hz2]; exact growslice_fits hg (by omega))
  have hge := grownCap_ge w (i + kz) cap 49
  have hml := grownCap_le_maxLen w (i + kz) cap 49 (by unfold maxLen; omega)
  generalize grownCap w (i + kz) cap 49 = c2 at *
  have e1 := zero_E E5 zOp (opA zOp) rfl kz
  have e2 := zero_E E5 zOp (opA zOp) rfl (c2 - (i + kz))
  have hLl : (l.take i ++ List.replicate kz zOp).length = i + kz := by rw [List.length_append, List.length_take, List.length_replicate, Nat.min_eq_left hi]
  refine ⟨c2, _, hr, ⟨by rw [hLl]; exact hge, hml, (E5.fl (l.take i)).toArray ++ Builtin.zeroCells (opA zOp) kz ++ Builtin.zeroCells (opA zOp) (c2 - (i + kz)), ?_, ?_, ?_⟩, ?_⟩
  · have := Blk.new w.drew ((E5.fl (l.take i)).toArray ++ Builtin.zeroCells (opA zOp) kz ++ Builtin.zeroCells (opA zOp) (c2 - (i + kz))) 49
    exact this
  · have z1 : (Builtin.zeroCells (opA zOp) kz).size = kz * 5 := by rw [← Array.length_toList, e1, E5.fl_len, List.length_replicate]; rfl
    have z2 : (Builtin.zeroCells (opA zOp) (c2 - (i + kz))).size = (c2 - (i + kz)) * 5 := by rw [← Array.length_toList, e2, E5.fl_len, List.length_replicate]; rfl
    rw [Array.size_append, Array.size_append, List.size_toArray, hlen, z1, z2]
    show _ = c2 * 5
    omega
  · rw [hLl, Array.toList_append, Array.toList_append, e1, e2, ← E5.fl_append, ← E5.fl_append]
    have := E5.fl_take (l.take i ++ List.replicate kz zOp ++ List.replicate (c2 - (i + kz)) zOp) (i + kz)
    rw [List.take_left' hLl] at this
    exact this
  · exact ab_alloc (ab_drew (Below.refl _ _)) _
theorem appz_l {P : Program} {ops : Array Oper} {rest : List Oper} {o : Oper} {a : Act} {w : World} {Q : Exit → Act → World → Prop} (hw : Region.wanted o (yielded ops a.tmps) = true) {s x : Operand} {t tn : TypeId} (ho : o.op = .call { callee := .builtin .append, args := #[s, x], argTypes := #[t, tn] }) (vs vx : Value) (hs : a.eval s = vs) (hx : a.eval x = vx) {v' : Value} {w' : World}
    (hr : ∀ ty, (Builtin.append_ #[t, tn] ty #[vs, vx]).run P w = .ok v' w') (h : wpList P ops Q rest (a.put o.dst v') w') : wpList P ops Q (o :: rest) a w := by
  unfold wpList
  rw [if_pos hw]
  left
  exact Lib.wp_append_run w s x t tn ho vs vx hs hx v' w' (hr o.type) h
end Go.Proofs.YteffpgodookebaaGreat
