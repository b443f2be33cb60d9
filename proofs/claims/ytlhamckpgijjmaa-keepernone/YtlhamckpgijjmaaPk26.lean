/-
  note.Ballot; slices of places that come in.
-/
import Derived.Test.YtlhamckpgijjmaaPk25
namespace Go.Proofs.Ytlhamckpgijjmaa
open Go.ChangeShapes Go.WideShapes Go.ChangeAt Go.RowKit Go.Shelf
set_option linter.unusedVariables false

section
variable {H : Type} {enc : TypeId × Value → H} {w : World} {base : Nat} {spare : Nat → Bool} {held : Bool}
end
abbrev three (x y z : Int) : Array Value := #[.int .i64 x, .int .i64 y, .int .i64 z]
theorem infoI1 : (Try.prog.info? 3).map (·.size) = some 1 := by kernel_rfl
/-- copy into three numbers. -/
theorem copy3 (w : World) (g : Nat) (t ty : TypeId) (v : Value) (l : List Int) (hv : Is w v l) (hB : Blk w g (three 0 0 0) t) :
    ∃ u w', (Builtin.copy_ #[31, 31] ty #[.slice (some ⟨g, 0, none⟩) 3 3, v]).run Try.prog w = .ok u w' ∧ Blk w' g (three (l.getD 0 0) (l.getD 1 0) (l.getD 2 0)) t ∧ Chg g w w' := by
  obtain ⟨q, cap, rfl, hq, hsrc⟩ := hv.src
  cases q with
  | none =>
    have h0 := hq rfl
    have hl : l = [] := List.eq_nil_of_length_eq_zero h0
    subst hl
    exact ⟨_, _, run_copy_none (P := Try.prog) w 31 31 ty 3 _ _ _ _ _ _ Try.underlying31 infoI1 (by simp), hB, Chg.refl _ _⟩
  | some ad =>
    have hs := hsrc ad rfl
    have hrun := run_copy_row (P := Try.prog) w 31 31 ty 3 g 0 3 3 ad l.length cap (three 0 0 0) t (ints (l.take 3)) Try.underlying31 infoI1 hB (by rw [ints_len, List.length_take, Nat.min_comm])
      (fun j u hu => hs j u (by
        rw [ints_at] at hu ⊢
        cases h : (l.take 3)[j]? with
        | none => rw [h] at hu; simp at hu
        | some x =>
          rw [h] at hu
          have hj : j < 3 := by have := (List.getElem?_eq_some_iff.1 h).1; rw [List.length_take] at this; omega
          rw [List.getElem?_take_of_lt hj] at h
          rw [h]
          exact hu)) (by rw [ints_len, List.length_take]; simp; omega) (ints_one _)
    refine ⟨_, _, hrun, ?_, chg_setRow _ _ _⟩
    have := setRow_heap w g (three 0 0 0) ((three 0 0 0).toList.take 0 ++ ints (l.take 3) ++ (three 0 0 0).toList.drop (0 + (ints (l.take 3)).length)).toArray t (0, 0) hB
    have e : ((three 0 0 0).toList.take 0 ++ ints (l.take 3) ++ (three 0 0 0).toList.drop (0 + (ints (l.take 3)).length)).toArray = three (l.getD 0 0) (l.getD 1 0) (l.getD 2 0) := by
      rcases l with _ | ⟨a, _ | ⟨b, _ | ⟨c, r⟩⟩⟩ <;> simp [ints]
    rw [e] at this
    rw [e]
    exact this
theorem info_blt (a b c : Int) : (Try.prog.info? 38).map (·.size) = some (three a b c).size := by kernel_rfl
set_option maxHeartbeats 1000000 in
set_option maxRecDepth 100000 in
theorem ballot_any (v : Value) (l : List Int) (w : World) (hv : Is w v l) :
    Calls Try.prog 41 #[v] w fun e w' => e = .returned (.agg (three (l.getD 0 0) (l.getD 1 0) (l.getD 2 0))) ∧ Below w.heap.size w w' := by
  have hA := ab_alloc (ab_alloc (Below.refl w.heap.size w) (.cells (three 0 0 0) 38)) (.cells (three 0 0 0) 128)
  have hR := (Blk.new w (three 0 0 0) 38).alloc (.cells (three 0 0 0) 128)
  have hB := Blk.new (w.alloc (.cells (three 0 0 0) 38)) (three 0 0 0) 128
  rw [show (w.alloc (.cells (three 0 0 0) 38)).heap.size = w.heap.size + 1 by simp] at hB
  have i1 := hv.keep hA
  go_enter Try.func41, Try.ntmps41
  go_upto_region 2 with fail
  generalize (w.alloc (.cells (three 0 0 0) 38)).alloc (.cells (three 0 0 0) 128) = V at *
  obtain ⟨u, V2, hcp, hB2, C2⟩ := copy3 V (w.heap.size + 1) 128 3 v l i1 hB
  go_upto_region 3 with fail
  have hR2 := hR.chg C2 (by omega)
  have hw2 := ab_chg hA C2 (by omega)
  have x0 : V2.cell? ⟨w.heap.size + 1, 0, none⟩ = some (.int .i64 (l.getD 0 0)) := hB2.at rfl
  have x1 : V2.cell? ⟨w.heap.size + 1, 1, none⟩ = some (.int .i64 (l.getD 1 0)) := hB2.at rfl
  have x2 : V2.cell? ⟨w.heap.size + 1, 2, none⟩ = some (.int .i64 (l.getD 2 0)) := hB2.at rfl
  have y0 : V2.cell? ⟨w.heap.size, 0, none⟩ = some (.int .i64 0) := hR2.at rfl
  have y1 : V2.cell? ⟨w.heap.size, 1, none⟩ = some (.int .i64 0) := hR2.at rfl
  have y2 : V2.cell? ⟨w.heap.size, 2, none⟩ = some (.int .i64 0) := hR2.at rfl
  have f0 := hR2.frozen 0
  have f1 := hR2.frozen 1
  have f2 := hR2.frozen 2
  clear hcp
  go_wp2_with fail
  have hR3 := ((hR2.set 0 (.int .i64 (l.getD 0 0))).set 1 (.int .i64 (l.getD 1 0))).set 2 (.int .i64 (l.getD 2 0))
  have C3 := ((chg_set V2 w.heap.size 0 (.int .i64 (l.getD 0 0))).trans (chg_set _ w.heap.size 1 (.int .i64 (l.getD 1 0)))).trans (chg_set _ w.heap.size 2 (.int .i64 (l.getD 2 0)))
  exact bodyPost_ret (results_cell_row rfl _ _ _ 38 _ (0, 0) _ rfl hR3 Try.underlying38 rfl (info_blt _ _ _)) rfl ⟨rfl, ab_chg hw2 C3 (Nat.le_refl _)⟩
end Go.Proofs.Ytlhamckpgijjmaa
