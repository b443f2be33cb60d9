/-
  note.Spread, Places, Ballot.
  note.Ballot; slices of places that come in.
-/
import Derived.Test.YtlhamckpgijjmaaPk41
import Derived.Test.YtlhamckpgijjmaaPk43
import Derived.Laws.CopyRow
import Derived.Laws.IdiomCopy
namespace Go.Proofs.Ytlhamckpgijjmaa
open Go.RowKit Go.Shelf
set_option linter.unusedVariables false

/-- A place's numbers; the places of numbers. -/
def plN (p : Nat → Int) : List Int := [p 0, p 1]
def plAt (l : List Int) (j : Nat) : Nat → Int := fun i => l.getD (2 * j + i) 0
def plsL (l : List Int) (m : Nat) : List (Nat → Int) := (List.range m).map (plAt l)
theorem plsL_len (l : List Int) (m : Nat) : (plsL l m).length = m := by simp [plsL]
def plsU (l : List Int) (m j : Nat) : List (Nat → Int) := plsL l j ++ List.replicate (m - j) zc
theorem plsU_next (l : List Int) (m j : Nat) (h : j < m) : (plsU l m j).set j (plAt l j) = plsU l m (j + 1) := by
  obtain ⟨d, rfl⟩ : ∃ d, m = j + d + 1 := ⟨m - j - 1, by omega⟩
  unfold plsU
  rw [List.set_append_right _ _ (by simp [plsL]), plsL_len, Nat.sub_self, show j + d + 1 - j = d + 1 by omega, show j + d + 1 - (j + 1) = d by omega, List.replicate_succ, List.set_cons_zero]
  unfold plsL
  rw [List.range_succ, List.map_append, List.append_assoc]
  rfl
theorem plsU_end (l : List Int) (m : Nat) : plsU l m m = plsL l m := by simp [plsU]
theorem plN_len : ∀ ps : List (Nat → Int), (ps.flatMap plN).length = 2 * ps.length
  | [] => rfl
  | p :: ps => by rw [List.flatMap_cons, List.length_append, plN_len ps]; simp [plN]; omega
theorem plN_at : ∀ (ps : List (Nat → Int)) (j : Nat) (p : Nat → Int), ps[j]? = some p → (ps.flatMap plN)[2 * j]? = some (p 0) ∧ (ps.flatMap plN)[2 * j + 1]? = some (p 1)
  | [], j, p, h => by simp at h
  | x :: ps, 0, p, h => by simp at h; subst h; simp [plN]
  | x :: ps, j + 1, p, h => by
    have := plN_at ps j p (by simpa using h)
    rw [List.flatMap_cons]
    refine ⟨?_, ?_⟩
    · rw [List.getElem?_append_right (by simp [plN]; omega), show 2 * (j + 1) - (plN x).length = 2 * j by simp [plN]; omega]; exact this.1
    · rw [List.getElem?_append_right (by simp [plN]; omega), show 2 * (j + 1) + 1 - (plN x).length = 2 * j + 1 by simp [plN]; omega]; exact this.2
/-- Places come back. -/
theorem pls_back (ps : List (Nat → Int)) : EqL 2 (plsL (ps.flatMap plN) ps.length) ps := by
  refine ⟨plsL_len _ _, fun j a b ha hb i hi => ?_⟩
  have hj : j < ps.length := (List.getElem?_eq_some_iff.1 hb).1
  simp [plsL, hj] at ha
  subst ha
  have := plN_at ps j b hb
  unfold plAt
  have hi2 : i = 0 ∨ i = 1 := by omega
  rcases hi2 with rfl | rfl
  · rw [Nat.add_zero, List.getD_eq_getElem?_getD, this.1]; rfl
  · rw [List.getD_eq_getElem?_getD, this.2]; rfl
/-- Numbers come back. -/
theorem nums_pls (l : List Int) (m : Nat) (hm : 2 * m ≤ l.length) : (plsL l m).flatMap plN = l.take (2 * m) := by
  apply List.ext_getElem?
  intro k
  by_cases hk : k < 2 * m
  · have h2 : k / 2 < m := by omega
    have hj : (plsL l m)[k / 2]? = some (plAt l (k / 2)) := by simp [plsL, h2]
    have := plN_at _ _ _ hj
    rw [List.getElem?_take_of_lt hk]
    have hp : k % 2 = 0 ∨ k % 2 = 1 := by omega
    rcases hp with hp | hp
    · have e : 2 * (k / 2) = k := by omega
      rw [e] at this
      rw [this.1]
      unfold plAt
      rw [e, Nat.add_zero, List.getD_eq_getElem?_getD, List.getElem?_eq_getElem (by omega)]; rfl
    · have e : 2 * (k / 2) + 1 = k := by omega
      rw [e] at this
      rw [this.2]
      unfold plAt
      rw [e, List.getD_eq_getElem?_getD, List.getElem?_eq_getElem (by omega)]; rfl
  · rw [List.getElem?_eq_none (by rw [plN_len, plsL_len]; omega), List.getElem?_eq_none (by rw [List.length_take]; omega)]
theorem cells_pl {W : World} {g o : Nat} {c : Nat → Int} (h : W.rangeAt g o (AG 2 k64 c).toList) : W.cell? ⟨g, o, none⟩ = some (.int .i64 (c 0)) ∧ W.cell? ⟨g, o + 1, none⟩ = some (.int .i64 (c 1)) := ⟨h 0 _ rfl, h 1 _ rfl⟩
theorem infoPlc : (Try.prog.info? 88).map (fun i => (i.zero, i.size, i.bytes)) = some (some (.agg (AG 2 k64 zc)), 2, 16) := by kernel_rfl
theorem info_plz : (Try.prog.info? 88).map (·.size) = some 2 := by kernel_rfl

section
variable {ops : Array Oper} {rest : List Oper} {o : Oper} {a : Act} {w : World} {Q : Exit → Act → World → Prop}
/-- A struct into the middle of an own row. -/
theorem st_so (hw : Region.wanted o (yielded ops a.tmps) = true) {e : TypeId} {k : Nat} {ks : Nat → IntKind} (hk : 0 < k) (hi : (Try.prog.info? e).map (·.size) = some k) {x y : Operand} (ho : o.op = .store e x y) {base n g cap m : Nat} {L : List (Nat → Int)}
    (h : w.ownsRow base e k (.slice (some ⟨g, 0, none⟩) n cap) n (flatA k ks L)) (hm : m < n) (c : Nat → Int) (hx : a.eval x = .pointer (some ⟨g, m * k, none⟩)) (hy : a.eval y = .agg (AG k ks c))
    (hK : ∀ W', W'.ownsRow base e k (.slice (some ⟨g, 0, none⟩) n cap) n (flatA k ks (L.set m c)) → Chg g w W' → wpList Try.prog ops Q rest (a.put o.dst undef) W') : wpList Try.prog ops Q (o :: rest) a w := by
  unfold wpList
  rw [if_pos hw]
  left
  exact soW o.dst rfl hk hi ho h hm c hx hy hK
end

end Go.Proofs.Ytlhamckpgijjmaa
namespace Go.Proofs.Ytlhamckpgijjmaa
open Go.ChangeShapes Go.WideShapes Go.ChangeAt Go.RowKit Go.Shelf
set_option linter.unusedVariables false

section
variable {H : Type} {enc : TypeId × Value → H} {w : World} {base : Nat} {spare : Nat → Bool} {held : Bool}
end
abbrev three (x y z : Int) : Array Value := #[.int .i64 x, .int .i64 y, .int .i64 z]
theorem infoI1 : (Try.prog.info? 3).map (·.size) = some 1 := by kernel_rfl
/-- copy into three numbers. -/
theorem copy3 (w : World) (g : Nat) (t ty : TypeId) (v : Value) (l : List Int) (hv : Is w v l) (hB : Blk w g (three 0 0 0) t) :
    ∃ u w', (Builtin.copy_ #[31, 31] ty #[.slice (some ⟨g, 0, none⟩) 3 3, v]).run Try.prog w = .ok u w' ∧ Blk w' g (three (l.getD 0 0) (l.getD 1 0) (l.getD 2 0)) t ∧ Chg g w w' := by
  obtain ⟨q, cap, rfl, hq, hsrc⟩ := hv.src
  cases q with
  | none =>
    have h0 := hq rfl
    have hl : l = [] := List.eq_nil_of_length_eq_zero h0
    subst hl
    exact ⟨_, _, run_copy_none (P := Try.prog) w 31 31 ty 3 _ _ _ _ _ _ Try.underlying31 infoI1 (by simp), hB, Chg.refl _ _⟩
  | some ad =>
    have hs := hsrc ad rfl
    have hrun := run_copy_row (P := Try.prog) w 31 31 ty 3 g 0 3 3 ad l.length cap (three 0 0 0) t (ints (l.take 3)) Try.underlying31 infoI1 hB (by rw [ints_len, List.length_take, Nat.min_comm])
      (fun j u hu => hs j u (by
        rw [ints_at] at hu ⊢
        cases h : (l.take 3)[j]? with
        | none => rw [h] at hu; simp at hu
        | some x =>
          rw [h] at hu
          have hj : j < 3 := by have := (List.getElem?_eq_some_iff.1 h).1; rw [List.length_take] at this; omega
          rw [List.getElem?_take_of_lt hj] at h
          rw [h]
          exact hu)) (by rw [ints_len, List.length_take]; simp; omega) (ints_one _)
    refine ⟨_, _, hrun, ?_, chg_setRow _ _ _⟩
    have := setRow_heap w g (three 0 0 0) ((three 0 0 0).toList.take 0 ++ ints (l.take 3) ++ (three 0 0 0).toList.drop (0 + (ints (l.take 3)).length)).toArray t (0, 0) hB
    have e : ((three 0 0 0).toList.take 0 ++ ints (l.take 3) ++ (three 0 0 0).toList.drop (0 + (ints (l.take 3)).length)).toArray = three (l.getD 0 0) (l.getD 1 0) (l.getD 2 0) := by
      rcases l with _ | ⟨a, _ | ⟨b, _ | ⟨c, r⟩⟩⟩ <;> simp [ints]
    rw [e] at this
    rw [e]
    exact this
theorem info_blt (a b c : Int) : (Try.prog.info? 38).map (·.size) = some (three a b c).size := by kernel_rfl
set_option maxHeartbeats 1000000 in
set_option maxRecDepth 100000 in
theorem ballot_any (v : Value) (l : List Int) (w : World) (hv : Is w v l) :
    Calls Try.prog 41 #[v] w fun e w' => e = .returned (.agg (three (l.getD 0 0) (l.getD 1 0) (l.getD 2 0))) ∧ Below w.heap.size w w' := by
  have hA := ab_alloc (ab_alloc (Below.refl w.heap.size w) (.cells (three 0 0 0) 38)) (.cells (three 0 0 0) 128)
  have hR := (Blk.new w (three 0 0 0) 38).alloc (.cells (three 0 0 0) 128)
  have hB := Blk.new (w.alloc (.cells (three 0 0 0) 38)) (three 0 0 0) 128
  rw [show (w.alloc (.cells (three 0 0 0) 38)).heap.size = w.heap.size + 1 by simp] at hB
  have i1 := hv.keep hA
  go_enter Try.func41, Try.ntmps41
  go_upto_region 2 with fail
  generalize (w.alloc (.cells (three 0 0 0) 38)).alloc (.cells (three 0 0 0) 128) = V at *
  obtain ⟨u, V2, hcp, hB2, C2⟩ := copy3 V (w.heap.size + 1) 128 3 v l i1 hB
  go_upto_region 3 with fail
  have hR2 := hR.chg C2 (by omega)
  have hw2 := ab_chg hA C2 (by omega)
  have x0 : V2.cell? ⟨w.heap.size + 1, 0, none⟩ = some (.int .i64 (l.getD 0 0)) := hB2.at rfl
  have x1 : V2.cell? ⟨w.heap.size + 1, 1, none⟩ = some (.int .i64 (l.getD 1 0)) := hB2.at rfl
  have x2 : V2.cell? ⟨w.heap.size + 1, 2, none⟩ = some (.int .i64 (l.getD 2 0)) := hB2.at rfl
  have y0 : V2.cell? ⟨w.heap.size, 0, none⟩ = some (.int .i64 0) := hR2.at rfl
  have y1 : V2.cell? ⟨w.heap.size, 1, none⟩ = some (.int .i64 0) := hR2.at rfl
  have y2 : V2.cell? ⟨w.heap.size, 2, none⟩ = some (.int .i64 0) := hR2.at rfl
  have f0 := hR2.frozen 0
  have f1 := hR2.frozen 1
  have f2 := hR2.frozen 2
  clear hcp
  go_wp2_with fail
  have hR3 := ((hR2.set 0 (.int .i64 (l.getD 0 0))).set 1 (.int .i64 (l.getD 1 0))).set 2 (.int .i64 (l.getD 2 0))
  have C3 := ((chg_set V2 w.heap.size 0 (.int .i64 (l.getD 0 0))).trans (chg_set _ w.heap.size 1 (.int .i64 (l.getD 1 0)))).trans (chg_set _ w.heap.size 2 (.int .i64 (l.getD 2 0)))
  exact bodyPost_ret (results_cell_row rfl _ _ _ 38 _ (0, 0) _ rfl hR3 Try.underlying38 rfl (info_blt _ _ _)) rfl ⟨rfl, ab_chg hw2 C3 (Nat.le_refl _)⟩
end Go.Proofs.Ytlhamckpgijjmaa
