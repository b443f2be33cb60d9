/-
  note.Spread, Places, Ballot.
  note.Ballot; slices of places that come in.
  The document's numbers: estuaryref04.Number, Put, Take, Nums.
  The document's Sum, four, Wrap, Unwrap, Split.
-/
import Derived.Test.YtjbhicjnnghjjaaPk12
import Derived.Test.YtjbhicjnnghjjaaPk14
import Derived.Laws.CopyRow
import Derived.Laws.IdiomCopy
import Derived.Test.YtjbhicjnnghjjaaPk05
import Derived.Lib.Strings
namespace Go.Proofs.Ytjbhicjnnghjjaa
open Go.RowKit Go.Shelf
set_option linter.unusedVariables false

/-- A place's numbers; the places of numbers. -/
def plN (p : Nat → Int) : List Int := [p 0, p 1]
def plAt (l : List Int) (j : Nat) : Nat → Int := fun i => l.getD (2 * j + i) 0
def plsL (l : List Int) (m : Nat) : List (Nat → Int) := (List.range m).map (plAt l)
theorem plsL_len (l : List Int) (m : Nat) : (plsL l m).length = m := by simp [plsL]
def plsU (l : List Int) (m j : Nat) : List (Nat → Int) := plsL l j ++ List.replicate (m - j) zc
theorem plsU_next (l : List Int) (m j : Nat) (h : j < m) : (plsU l m j).set j (plAt l j) = plsU l m (j + 1) := by
  obtain ⟨d, rfl⟩ : ∃ d, m = j + d + 1 := ⟨m - j - 1, by omega⟩
  unfold plsU
  rw [List.set_append_right _ _ (by simp [plsL]), plsL_len, Nat.sub_self, show j + d + 1 - j = d + 1 by omega, show j + d + 1 - (j + 1) = d by omega, List.replicate_succ, List.set_cons_zero]
  unfold plsL
  rw [List.range_succ, List.map_append, List.append_assoc]
  rfl
theorem plsU_end (l : List Int) (m : Nat) : plsU l m m = plsL l m := by simp [plsU]
theorem plN_len : ∀ ps : List (Nat → Int), (ps.flatMap plN).length = 2 * ps.length
  | [] => rfl
  | p :: ps => by rw [List.flatMap_cons, List.length_append, plN_len ps]; simp [plN]; omega
theorem plN_at : ∀ (ps : List (Nat → Int)) (j : Nat) (p : Nat → Int), ps[j]? = some p → (ps.flatMap plN)[2 * j]? = some (p 0) ∧ (ps.flatMap plN)[2 * j + 1]? = some (p 1)
  | [], j, p, h => by simp at h
  | x :: ps, 0, p, h => by simp at h; subst h; simp [plN]
  | x :: ps, j + 1, p, h => by
    have := plN_at ps j p (by simpa using h)
    rw [List.flatMap_cons]
    refine ⟨?_, ?_⟩
    · rw [List.getElem?_append_right (by simp [plN]; omega), show 2 * (j + 1) - (plN x).length = 2 * j by simp [plN]; omega]; exact this.1
    · rw [List.getElem?_append_right (by simp [plN]; omega), show 2 * (j + 1) + 1 - (plN x).length = 2 * j + 1 by simp [plN]; omega]; exact this.2
/-- Places come back. -/
theorem pls_back (ps : List (Nat → Int)) : EqL 2 (plsL (ps.flatMap plN) ps.length) ps := by
  refine ⟨plsL_len _ _, fun j a b ha hb i hi => ?_⟩
  have hj : j < ps.length := (List.getElem?_eq_some_iff.1 hb).1
  simp [plsL, hj] at ha
  subst ha
  have := plN_at ps j b hb
  unfold plAt
  have hi2 : i = 0 ∨ i = 1 := by omega
  rcases hi2 with rfl | rfl
  · rw [Nat.add_zero, List.getD_eq_getElem?_getD, this.1]; rfl
  · rw [List.getD_eq_getElem?_getD, this.2]; rfl
/-- Numbers come back. -/
theorem nums_pls (l : List Int) (m : Nat) (hm : 2 * m ≤ l.length) : (plsL l m).flatMap plN = l.take (2 * m) := by
  apply List.ext_getElem?
  intro k
  by_cases hk : k < 2 * m
  · have h2 : k / 2 < m := by omega
    have hj : (plsL l m)[k / 2]? = some (plAt l (k / 2)) := by simp [plsL, h2]
    have := plN_at _ _ _ hj
    rw [List.getElem?_take_of_lt hk]
    have hp : k % 2 = 0 ∨ k % 2 = 1 := by omega
    rcases hp with hp | hp
    · have e : 2 * (k / 2) = k := by omega
      rw [e] at this
      rw [this.1]
      unfold plAt
      rw [e, Nat.add_zero, List.getD_eq_getElem?_getD, List.getElem?_eq_getElem (by omega)]; rfl
    · have e : 2 * (k / 2) + 1 = k := by omega
      rw [e] at this
      rw [this.2]
      unfold plAt
      rw [e, List.getD_eq_getElem?_getD, List.getElem?_eq_getElem (by omega)]; rfl
  · rw [List.getElem?_eq_none (by rw [plN_len, plsL_len]; omega), List.getElem?_eq_none (by rw [List.length_take]; omega)]
theorem cells_pl {W : World} {g o : Nat} {c : Nat → Int} (h : W.rangeAt g o (AG 2 k64 c).toList) : W.cell? ⟨g, o, none⟩ = some (.int .i64 (c 0)) ∧ W.cell? ⟨g, o + 1, none⟩ = some (.int .i64 (c 1)) := ⟨h 0 _ rfl, h 1 _ rfl⟩
theorem infoPlc : (Try.prog.info? 53).map (fun i => (i.zero, i.size, i.bytes)) = some (some (.agg (AG 2 k64 zc)), 2, 16) := by kernel_rfl
theorem info_plz : (Try.prog.info? 53).map (·.size) = some 2 := by kernel_rfl

section
variable {ops : Array Oper} {rest : List Oper} {o : Oper} {a : Act} {w : World} {Q : Exit → Act → World → Prop}
/-- A struct into the middle of an own row. -/
theorem st_so (hw : Region.wanted o (yielded ops a.tmps) = true) {e : TypeId} {k : Nat} {ks : Nat → IntKind} (hk : 0 < k) (hi : (Try.prog.info? e).map (·.size) = some k) {x y : Operand} (ho : o.op = .store e x y) {base n g cap m : Nat} {L : List (Nat → Int)}
    (h : w.ownsRow base e k (.slice (some ⟨g, 0, none⟩) n cap) n (flatA k ks L)) (hm : m < n) (c : Nat → Int) (hx : a.eval x = .pointer (some ⟨g, m * k, none⟩)) (hy : a.eval y = .agg (AG k ks c))
    (hK : ∀ W', W'.ownsRow base e k (.slice (some ⟨g, 0, none⟩) n cap) n (flatA k ks (L.set m c)) → Chg g w W' → wpList Try.prog ops Q rest (a.put o.dst undef) W') : wpList Try.prog ops Q (o :: rest) a w := by
  unfold wpList
  rw [if_pos hw]
  left
  exact soW o.dst rfl hk hi ho h hm c hx hy hK
end

set_option maxHeartbeats 1000000 in
set_option maxRecDepth 100000 in
theorem places_any (v : Value) (l : List Int) (m : Nat) (w : World) (hv : Is w v l) (hm : l.length / 2 = m) (hl : l.length ≤ 1000000) :
    Calls Try.prog 24 #[v] w fun e w' => ∃ v', e = .returned v' ∧ SO 53 2 k64 w' w.heap.size v' (plsL l m) ∧ Below w.heap.size w w' := by
  obtain ⟨q, cap, e⟩ := hv.form
  subst e
  have hc := hv.len
  have hq : ((l.length : Nat) : Int).tdiv 2 = (m : Int) := by rw [Int.tdiv_eq_ediv_of_nonneg (by omega)]; omega
  generalize hn : l.length = n at *
  go_enter Try.func24, Try.ntmps24
  go_upto_region 3 with (refine mk_so (k := 2) (ks := k64) rfl (by omega) Try.underlying49 infoPlc rfl rfl rfl (by omega) (by omega) ?_; intro W1 hO1 b1)
  go_wp2_with fail
  go_loopw [12] (fun i wr => ∃ j : Nat, j ≤ m ∧ i = .int .i64 (j : Int) ∧ wr.ownsRow w.heap.size 53 2 (.slice (some ⟨w.heap.size, 0, none⟩) m m) m (flatA 2 k64 (plsU l m j)) ∧ Below w.heap.size w wr) (fun i _ => m - (intOf i).toNat)
  case atStart => exact ⟨0, by omega, rfl, by simpa [plsU, plsL] using hO1, b1⟩
  case round =>
    clear hO1 b1
    obtain ⟨j, hj, rfl, hO, hb⟩ := hrel
    by_cases c : j = m
    · subst c
      rw [plsU_end] at hO
      go_wp2_with fail
      go_ret
      exact ⟨_, rfl, so_of hO (by omega), hb⟩
    · have hjm : j < m := by omega
      have hji : (j : Int) < (m : Int) := by omega
      obtain ⟨J, hJ⟩ : ∃ J, J = 2 * j := ⟨_, rfl⟩
      have h5 : (2 : Int) * (j : Int) = (J : Int) := by omega
      have HLE : Hid (J + 2 ≤ n) := by show _ ≤ _; omega
      have HP : Hid ((Ending.returned (.agg #[.int .i64 ((l.drop J).getD 0 0), .int .i64 ((l.drop J).getD 1 0)]) : Ending) = .returned (.agg (AG 2 k64 (plAt l j)))) := by
        show _ = _
        have e0 : (l.drop J).getD 0 0 = plAt l j 0 := by unfold plAt; rw [List.getD_eq_getElem?_getD, List.getElem?_drop, hJ, ← List.getD_eq_getElem?_getD]
        have e1 : (l.drop J).getD 1 0 = plAt l j 1 := by unfold plAt; rw [List.getD_eq_getElem?_getD, List.getElem?_drop, hJ, ← List.getD_eq_getElem?_getD]
        rw [e0, e1]
        rfl
      have HU : Hid ((plsU l m j).set j (plAt l j) = plsU l m (j + 1)) := plsU_next l m j hjm
      have HLD : Hid (2 ≤ (l.drop J).length) := by show _ ≤ _; rw [List.length_drop, hn]; omega
      clear hJ hq
      go_upto_region 7 with (first
        | (refine sli_l w rfl rfl J rfl rfl rfl (by have := HLE.out; omega) hv ?_; intro q5 i5)
        | (go_at_call 46; refine (placeOf_any _ _ _ (i5.keep hb) HLD.out).mono ?_; rintro e W5 ⟨he, b5⟩; rw [HP.out] at he; subst he)
        | (refine st_so rfl (k := 2) (ks := k64) (by omega) info_plz rfl (own_keep hO b5) hjm (plAt l j) rfl rfl ?_; intro W6 hO6 C6))
      rw [HU.out] at hO6
      have hb6 := ab_chg (ab_trans hb b5) C6 (Nat.le_refl _)
      clear hO hb b5 C6 i5
      go_wp2_with fail
      exact ⟨⟨j + 1, by omega, rfl, hO6, hb6⟩, by simp only [intOf]; omega⟩

set_option maxHeartbeats 1000000 in
set_option maxRecDepth 100000 in
theorem spread_ps (v : Value) (ps : List (Nat → Int)) (w : World) (hv : SR 2 k64 w v ps) (hl : ps.length ≤ 100000) :
    Calls Try.prog 23 #[v] w fun e w' => ∃ v', e = .returned v' ∧ Io w' w.heap.size v' (ps.flatMap plN) ∧ Below w.heap.size w w' := by
  obtain ⟨q, cap, g, off, rfl, hlc, hcm, hp, hg, hr⟩ := hv
  generalize hm : ps.length = m at *
  go_enter Try.func23, Try.ntmps23
  go_upto_region 2 with (refine mk_own (c := 2 * m) w rfl rfl Try.underlying22 infoInt rfl rfl (by omega) (by omega) (by unfold maxLen; omega) (Below.refl _ _) ?_; intro v1 W1 own1 nn1 b1 b1')
  go_wp2_with fail
  go_loopw [3, 12] (fun x i wr => ∃ j : Nat, j ≤ m ∧ i = .int .i64 (j : Int) ∧ Io wr w.heap.size x ((ps.take j).flatMap plN) ∧ Below w.heap.size w wr) (fun _ i _ => m - (intOf i).toNat)
  case atStart => exact ⟨0, by omega, rfl, io_of (l := []) own1, b1⟩
  case round =>
    clear own1 nn1 b1 b1'
    obtain ⟨j, hj, rfl, O, hb⟩ := hrel
    by_cases cj : j = m
    · subst cj
      have e1 : ps.take j = ps := List.take_of_length_le (by omega)
      rw [e1] at O
      go_wp2_with fail
      go_ret
      exact ⟨_, rfl, O, hb⟩
    · obtain ⟨x, hx⟩ : ∃ x, ps[j]? = some x := ⟨ps[j], List.getElem?_eq_getElem (by omega)⟩
      obtain rfl := hp (by omega)
      have hrr : wr.rangeAt g (off + j * 2) (AG 2 k64 x).toList := fun i v hv => (hb.cell (p := ⟨g, _, none⟩) (hg (by omega))).trans (hr j x hx i v hv)
      obtain ⟨x0, x1⟩ := cells_pl hrr
      have hji : (j : Int) < (m : Int) := by omega
      have hjm : j < m := by omega
      have HT : Hid ((ps.take (j + 1)).flatMap plN = (ps.take j).flatMap plN ++ [x 0, x 1]) := by
        show _ = _
        rw [List.take_add_one, hx, Option.toList_some, List.flatMap_append]
        simp [plN]
      have HL : Hid (((ps.take j).flatMap plN).length ≤ 200000) := by
        show _ ≤ _
        rw [plN_len, List.length_take]
        omega
      clear hrr hr hp hg hx hm
      generalize (ps.take j).flatMap plN = Y at *
      go_wp2_with (first
        | (refine bs_own rfl rfl [x 0, x 1] (by simp only [List.map_toArray, List.map_cons, List.map_nil]; rfl) (isl2 _ _ _) rfl (by decide) ?_; intro V3 hN3 b3 z3)
        | (at_builtin; refine app_i w rfl rfl rfl (O.keep (ab_trans (ab_alloc (Below.refl _ _) _) b3)) rfl (own_is hN3) rfl (by have := HL.out; show _ + 2 ≤ _; omega) (ab_trans (ab_alloc hb _) b3) ?_; intro v4 V4 hown4 hnil4 b4 hgr4 hat4))
      refine ⟨⟨j + 1, by omega, rfl, ?_, b4⟩, by simp only [intOf]; omega⟩
      rw [HT.out]
      exact io_of hown4
end Go.Proofs.Ytjbhicjnnghjjaa
namespace Go.Proofs.Ytjbhicjnnghjjaa
open Go.ChangeShapes Go.WideShapes Go.ChangeAt Go.RowKit Go.Shelf
set_option linter.unusedVariables false

section
variable {H : Type} {enc : TypeId × Value → H} {w : World} {base : Nat} {spare : Nat → Bool} {held : Bool}
set_option maxRecDepth 100000 in
theorem open_places {r : Reach} {b0 : Nat} {v : Value} {d : DataW H} {p : List MemPlace} (hv : Value.okWide Try.prog w r b0 49 v) (h : DataW.Trod enc Try.prog w base spare held 49 v d p) : ∃ l, SR 2 k64 w v l ∧ ∀ x ∈ l, Fit (x 0) ∧ Fit (x 1) := by
  obtain ⟨q, g, off, len, cap, l, rfl, hl, hk, hm, hp, hg, hc⟩ := open_rows (n := 2) (D := 8) k64 Try.underlying49 (by kernel_rfl) (by omega) (kinds_of (by kernel_rfl)) hv h
  refine ⟨l, sr_rows hl hk hm hp hg hc, fun x hx => ?_⟩
  obtain ⟨j, hj⟩ := List.getElem?_of_mem hx
  exact ⟨bounds_i64 (hc j x hj 0 (by omega)).2, bounds_i64 (hc j x hj 1 (by omega)).2⟩
end
abbrev three (x y z : Int) : Array Value := #[.int .i64 x, .int .i64 y, .int .i64 z]
theorem infoI1 : (Try.prog.info? 3).map (·.size) = some 1 := by kernel_rfl
/-- copy into three numbers. -/
theorem copy3 (w : World) (g : Nat) (t ty : TypeId) (v : Value) (l : List Int) (hv : Is w v l) (hB : Blk w g (three 0 0 0) t) :
    ∃ u w', (Builtin.copy_ #[22, 22] ty #[.slice (some ⟨g, 0, none⟩) 3 3, v]).run Try.prog w = .ok u w' ∧ Blk w' g (three (l.getD 0 0) (l.getD 1 0) (l.getD 2 0)) t ∧ Chg g w w' := by
  obtain ⟨q, cap, rfl, hq, hsrc⟩ := hv.src
  cases q with
  | none =>
    have h0 := hq rfl
    have hl : l = [] := List.eq_nil_of_length_eq_zero h0
    subst hl
    exact ⟨_, _, run_copy_none (P := Try.prog) w 22 22 ty 3 _ _ _ _ _ _ Try.underlying22 infoI1 (by simp), hB, Chg.refl _ _⟩
  | some ad =>
    have hs := hsrc ad rfl
    have hrun := run_copy_row (P := Try.prog) w 22 22 ty 3 g 0 3 3 ad l.length cap (three 0 0 0) t (ints (l.take 3)) Try.underlying22 infoI1 hB (by rw [ints_len, List.length_take, Nat.min_comm])
      (fun j u hu => hs j u (by
        rw [ints_at] at hu ⊢
        cases h : (l.take 3)[j]? with
        | none => rw [h] at hu; simp at hu
        | some x =>
          rw [h] at hu
          have hj : j < 3 := by have := (List.getElem?_eq_some_iff.1 h).1; rw [List.length_take] at this; omega
          rw [List.getElem?_take_of_lt hj] at h
          rw [h]
          exact hu)) (by rw [ints_len, List.length_take]; simp; omega) (ints_one _)
    refine ⟨_, _, hrun, ?_, chg_setRow _ _ _⟩
    have := setRow_heap w g (three 0 0 0) ((three 0 0 0).toList.take 0 ++ ints (l.take 3) ++ (three 0 0 0).toList.drop (0 + (ints (l.take 3)).length)).toArray t (0, 0) hB
    have e : ((three 0 0 0).toList.take 0 ++ ints (l.take 3) ++ (three 0 0 0).toList.drop (0 + (ints (l.take 3)).length)).toArray = three (l.getD 0 0) (l.getD 1 0) (l.getD 2 0) := by
      rcases l with _ | ⟨a, _ | ⟨b, _ | ⟨c, r⟩⟩⟩ <;> simp [ints]
    rw [e] at this
    rw [e]
    exact this
theorem info_blt (a b c : Int) : (Try.prog.info? 56).map (·.size) = some (three a b c).size := by kernel_rfl
set_option maxHeartbeats 1000000 in
set_option maxRecDepth 100000 in
theorem ballot_any (v : Value) (l : List Int) (w : World) (hv : Is w v l) :
    Calls Try.prog 26 #[v] w fun e w' => e = .returned (.agg (three (l.getD 0 0) (l.getD 1 0) (l.getD 2 0))) ∧ Below w.heap.size w w' := by
  have hA := ab_alloc (ab_alloc (Below.refl w.heap.size w) (.cells (three 0 0 0) 56)) (.cells (three 0 0 0) 97)
  have hR := (Blk.new w (three 0 0 0) 56).alloc (.cells (three 0 0 0) 97)
  have hB := Blk.new (w.alloc (.cells (three 0 0 0) 56)) (three 0 0 0) 97
  rw [show (w.alloc (.cells (three 0 0 0) 56)).heap.size = w.heap.size + 1 by simp] at hB
  have i1 := hv.keep hA
  go_enter Try.func26, Try.ntmps26
  go_upto_region 2 with fail
  generalize (w.alloc (.cells (three 0 0 0) 56)).alloc (.cells (three 0 0 0) 97) = V at *
  obtain ⟨u, V2, hcp, hB2, C2⟩ := copy3 V (w.heap.size + 1) 97 3 v l i1 hB
  go_upto_region 3 with fail
  have hR2 := hR.chg C2 (by omega)
  have hw2 := ab_chg hA C2 (by omega)
  have x0 : V2.cell? ⟨w.heap.size + 1, 0, none⟩ = some (.int .i64 (l.getD 0 0)) := hB2.at rfl
  have x1 : V2.cell? ⟨w.heap.size + 1, 1, none⟩ = some (.int .i64 (l.getD 1 0)) := hB2.at rfl
  have x2 : V2.cell? ⟨w.heap.size + 1, 2, none⟩ = some (.int .i64 (l.getD 2 0)) := hB2.at rfl
  have y0 : V2.cell? ⟨w.heap.size, 0, none⟩ = some (.int .i64 0) := hR2.at rfl
  have y1 : V2.cell? ⟨w.heap.size, 1, none⟩ = some (.int .i64 0) := hR2.at rfl
  have y2 : V2.cell? ⟨w.heap.size, 2, none⟩ = some (.int .i64 0) := hR2.at rfl
  have f0 := hR2.frozen 0
  have f1 := hR2.frozen 1
  have f2 := hR2.frozen 2
  clear hcp
  go_wp2_with fail
  have hR3 := ((hR2.set 0 (.int .i64 (l.getD 0 0))).set 1 (.int .i64 (l.getD 1 0))).set 2 (.int .i64 (l.getD 2 0))
  have C3 := ((chg_set V2 w.heap.size 0 (.int .i64 (l.getD 0 0))).trans (chg_set _ w.heap.size 1 (.int .i64 (l.getD 1 0)))).trans (chg_set _ w.heap.size 2 (.int .i64 (l.getD 2 0)))
  exact bodyPost_ret (results_cell_row rfl _ _ _ 56 _ (0, 0) _ rfl hR3 Try.underlying56 rfl (info_blt _ _ _)) rfl ⟨rfl, ab_chg hw2 C3 (Nat.le_refl _)⟩
end Go.Proofs.Ytjbhicjnnghjjaa
namespace Go.Proofs.Ytjbhicjnnghjjaa
open Go.RowKit
set_option linter.unusedVariables false

/-- Strings that differ, as the walk compares them. -/
theorem strB_ne {a b : List Nat} (h : strB a ≠ strB b) : ((strB a).toList == (strB b).toList) = false := by
  apply beq_false_of_ne
  intro e
  rw [Lib.toList_data, Lib.toList_data] at e
  exact h (ByteArray.ext (Array.toList_inj.1 e))
theorem leB_cons (j u : Nat) (hu : u < 256 ^ j) (h0 : u ≠ 0) : ∃ k, j = k + 1 ∧ leB j u = u % 256 :: leB k (u / 256) ∧ u / 256 < 256 ^ k := by
  cases j with
  | zero => exact absurd (by simpa using hu) h0
  | succ k =>
    refine ⟨k, rfl, ?_, by rw [Nat.pow_succ] at hu; omega⟩
    rw [leB, if_neg h0]
theorem leB_zero (j : Nat) : leB j 0 = [] := by cases j <;> simp [leB]
/-- How a number is written: what is done, and what is left. -/
structure Wr (u : Nat) (l : List Nat) (rem : Nat) : Prop where
  len : l.length ≤ 8
  lt : rem < 256 ^ (8 - l.length)
  all : l ++ leB (8 - l.length) rem = leB 8 u
theorem Wr.start {u : Nat} (hu : u < 18446744073709551616) : Wr u [] u := ⟨by simp, by simpa using hu, by simp⟩
theorem Wr.step {u : Nat} {l : List Nat} {rem : Nat} (h : Wr u l rem) (h0 : rem ≠ 0) : Wr u (l ++ [rem % 256]) (rem / 256) := by
  obtain ⟨k, e, e2, e3⟩ := leB_cons (8 - l.length) rem h.lt h0
  have hl : (l ++ [rem % 256]).length = l.length + 1 := by simp
  have hk : 8 - (l ++ [rem % 256]).length = k := by rw [hl]; omega
  refine ⟨by rw [hl]; omega, by rw [hk]; exact e3, ?_⟩
  rw [hk, ← h.all, e2, List.append_assoc]
  rfl
theorem Wr.end {u : Nat} {l : List Nat} (h : Wr u l 0) : l = leB 8 u := by
  have := h.all
  rwa [leB_zero, List.append_nil] at this
set_option maxHeartbeats 1000000 in
theorem number_ref (n : Int) (w : World) (h0 : -9223372036854775808 ≤ n) (h1 : n ≤ 9223372036854775807) :
    Calls Try.prog 55 #[.int .i64 n] w fun e w' => ∃ v', e = .returned v' ∧ Ow w' w.heap.size v' (numB n) ∧ Below w.heap.size w w' := by
  have hz := zig_lt n h0 h1
  by_cases hneg : n < 0
  · go_enter Try.func55, Try.ntmps55
    have HZ : -(n + 1) * 2 + 1 = ((zig n : Nat) : Int) := by unfold zig; rw [if_pos hneg]; omega
    go_wp2_with fail
    go_loopw [3, 4] (fun s x wr => ∃ (rem : Nat) (l : List Nat), s = .int .u64 ((rem : Nat) : Int) ∧ rem < 18446744073709551616 ∧ Ow wr w.heap.size x l ∧ Wr (zig n) l rem ∧ Below w.heap.size w wr) (fun s _ _ => numOf s)
    case atStart => exact ⟨zig n, [], rfl, hz, World.ownsRow_nil w _ _ _, Wr.start hz, Below.refl _ _⟩
    case round =>
      obtain ⟨rem, l, rfl, hrem, HO, HW, hbw⟩ := hrel
      have hl8 := HW.len
      by_cases c : rem = 0
      · subst c
        have HE : Hid (numB n = l.length :: l) := by show _ = _; rw [numB, ← HW.end]
        obtain ⟨q2, cap2, e2⟩ := HO.form
        subst e2
        generalize hll : l.length = k at *
        have hN9 : Hid (l.length ≤ 8) := by show _ ≤ _; omega
        go_wp2_with (first
          | (refine bs_by rfl rfl [k] (vs := #[(0, .int .u8 ((k : Nat) : Int))]) (by simp only [List.map_toArray, List.map_cons, List.map_nil]; rfl) (bsb1 _ _) rfl (by decide) ?_; intro W3 hN b3 z3)
          | (at_builtin; refine app_by _ rfl rfl rfl hN rfl (HO.keep b3).sl hll (by omega) b3 ?_; intro v4 W4 hown4 hnil4 hb4 hgr4 hat4))
        go_ret
        rw [HE.out]
        exact ⟨_, rfl, (ow_of hown4).less hbw.size, ab_trans hbw hb4⟩
      · have hpos : 0 < rem := by omega
        have HW2 : Hid (Wr (zig n) (l ++ [rem % 256]) (rem / 256)) := HW.step c
        clear HW
        have e1 : ((rem : Nat) : Int).tmod 256 = ((rem % 256 : Nat) : Int) := by rw [Int.tmod_eq_emod_of_nonneg (by omega)]; omega
        have e2 : ((rem : Nat) : Int).tdiv 256 = ((rem / 256 : Nat) : Int) := by rw [Int.tdiv_eq_ediv_of_nonneg (by omega)]; omega
        have HL : Hid (l.length + 1 ≤ 1000000) := by show _ ≤ _; omega
        go_wp2_with (first
          | (refine bs_by rfl rfl [rem % 256] (vs := #[(0, .int .u8 ((rem % 256 : Nat) : Int))]) (by simp only [List.map_toArray, List.map_cons, List.map_nil]; rfl) (bsb1 _ _) rfl (by decide) ?_; intro W3 hN b3 z3)
          | (at_builtin; refine app_by _ rfl rfl rfl (HO.keep b3) rfl (own_sl hN).2 rfl HL.out (ab_trans hbw b3) ?_; intro v4 W4 hown4 hnil4 hb4 hgr4 hat4))
        refine ⟨⟨rem / 256, l ++ [rem % 256], by rw [Int.natCast_ediv]; rfl, by omega, ow_of hown4, HW2.out, hb4⟩, by simp only [numOf]; omega⟩
  · have HZ : n * 2 = ((zig n : Nat) : Int) := by unfold zig; rw [if_neg hneg]; omega
    go_enter Try.func55, Try.ntmps55
    go_wp2_with fail
    go_loopw [3, 4] (fun s x wr => ∃ (rem : Nat) (l : List Nat), s = .int .u64 ((rem : Nat) : Int) ∧ rem < 18446744073709551616 ∧ Ow wr w.heap.size x l ∧ Wr (zig n) l rem ∧ Below w.heap.size w wr) (fun s _ _ => numOf s)
    case atStart => exact ⟨zig n, [], rfl, hz, World.ownsRow_nil w _ _ _, Wr.start hz, Below.refl _ _⟩
    case round =>
      obtain ⟨rem, l, rfl, hrem, HO, HW, hbw⟩ := hrel
      have hl8 := HW.len
      by_cases c : rem = 0
      · subst c
        have HE : Hid (numB n = l.length :: l) := by show _ = _; rw [numB, ← HW.end]
        obtain ⟨q2, cap2, e2⟩ := HO.form
        subst e2
        generalize hll : l.length = k at *
        have hN9 : Hid (l.length ≤ 8) := by show _ ≤ _; omega
        go_wp2_with (first
          | (refine bs_by rfl rfl [k] (vs := #[(0, .int .u8 ((k : Nat) : Int))]) (by simp only [List.map_toArray, List.map_cons, List.map_nil]; rfl) (bsb1 _ _) rfl (by decide) ?_; intro W3 hN b3 z3)
          | (at_builtin; refine app_by _ rfl rfl rfl hN rfl (HO.keep b3).sl hll (by omega) b3 ?_; intro v4 W4 hown4 hnil4 hb4 hgr4 hat4))
        go_ret
        rw [HE.out]
        exact ⟨_, rfl, (ow_of hown4).less hbw.size, ab_trans hbw hb4⟩
      · have hpos : 0 < rem := by omega
        have HW2 : Hid (Wr (zig n) (l ++ [rem % 256]) (rem / 256)) := HW.step c
        clear HW
        have e1 : ((rem : Nat) : Int).tmod 256 = ((rem % 256 : Nat) : Int) := by rw [Int.tmod_eq_emod_of_nonneg (by omega)]; omega
        have e2 : ((rem : Nat) : Int).tdiv 256 = ((rem / 256 : Nat) : Int) := by rw [Int.tdiv_eq_ediv_of_nonneg (by omega)]; omega
        have HL : Hid (l.length + 1 ≤ 1000000) := by show _ ≤ _; omega
        go_wp2_with (first
          | (refine bs_by rfl rfl [rem % 256] (vs := #[(0, .int .u8 ((rem % 256 : Nat) : Int))]) (by simp only [List.map_toArray, List.map_cons, List.map_nil]; rfl) (bsb1 _ _) rfl (by decide) ?_; intro W3 hN b3 z3)
          | (at_builtin; refine app_by _ rfl rfl rfl (HO.keep b3) rfl (own_sl hN).2 rfl HL.out (ab_trans hbw b3) ?_; intro v4 W4 hown4 hnil4 hb4 hgr4 hat4))
        refine ⟨⟨rem / 256, l ++ [rem % 256], by rw [Int.natCast_ediv]; rfl, by omega, ow_of hown4, HW2.out, hb4⟩, by simp only [numOf]; omega⟩

set_option maxHeartbeats 1000000 in
theorem put_ref (v : Value) (l : List Nat) (v2 : Value) (ns : List Int) (w : World) (hv : Sl w v l) (hl : l.length ≤ 100000) (hi : Is w v2 ns) (hn4 : ns.length ≤ 4000) (h64 : In64 ns) :
    Calls Try.prog 31 #[v, v2] w fun e w' => ∃ v', e = .returned v' ∧ Ow w' w.heap.size v' (l ++ numsB ns) ∧ Below w.heap.size w w' := by
  obtain ⟨q, cap, g, off, rfl, hc, hm, hp, hg, hr⟩ := hi
  generalize hn : ns.length = n at *
  generalize hnl : l.length = nl at *
  go_enter Try.func31, Try.ntmps31
  go_upto_region 2 with (first
    | (refine bs_by rfl rfl [] (vs := #[]) (by simp) (bsb0 _) rfl (by decide) ?_; intro V1 hN1 hb1 z1)
    | (at_builtin; refine app_by w rfl rfl rfl hN1 rfl (hv.keep hb1) hnl (by omega) hb1 ?_; intro v2 V2 hown2 hnil2 hb2 hgr2 hat2))
  have HO2 := ow_of hown2
  rw [List.nil_append] at HO2
  clear hown2 hnil2 hgr2 hat2 hN1 hb1 z1
  go_wp2_with fail
  go_loopw [5, 6] (fun x i wr => ∃ k : Nat, k ≤ n ∧ i = .int .i64 (k : Int) ∧ Ow wr w.heap.size x (l ++ numsB (ns.take k)) ∧ Below w.heap.size w wr) (fun _ i _ => n - (intOf i).toNat)
  case atStart => exact ⟨0, by omega, rfl, by simpa [numsB] using HO2, hb2⟩
  case round =>
    clear HO2 hb2 hv
    obtain ⟨k, hk, rfl, hown, hb⟩ := hrel
    by_cases c : k = n
    · subst c
      rw [List.take_of_length_le (by omega)] at hown
      clear hr hp hg h64
      go_wp2_with fail
      go_ret
      exact ⟨_, rfl, hown, hb⟩
    · obtain ⟨x, hx⟩ : ∃ x, ns[k]? = some x := ⟨ns[k], List.getElem?_eq_getElem (by omega)⟩
      obtain rfl := hp (by omega)
      have hx64 := h64 x (List.mem_of_getElem? hx)
      have d := (hb.cell (p := ⟨g, off + k, none⟩) (hg (by omega))).trans (hr k x hx)
      have hki : (k : Int) < (n : Int) := by omega
      have hkn : k < n := by omega
      have HT : Hid (numsB (ns.take (k + 1)) = numsB (ns.take k) ++ numB x) := numsB_take ns k x hx
      have HL : Hid ((l ++ numsB (ns.take k)).length + (numB x).length ≤ 1000000) := by
        have := numsB_len (ns.take k)
        have h9 := numB_len x
        rw [List.length_take] at this
        show _ ≤ _
        rw [List.length_append]
        omega
      clear hr hp hg h64 hx
      go_wp2_with (first
        | (go_at_call 55; refine (number_ref _ _ hx64.1 hx64.2).mono ?_; rintro e V3 ⟨v3, rfl, HO3, hb3⟩)
        | (at_builtin; refine app_by w rfl rfl rfl (hown.keep hb3) rfl HO3.sl rfl HL.out (ab_trans hb hb3) ?_; intro v4 V4 hown4 hnil4 hb4 hgr4 hat4))
      refine ⟨⟨k + 1, by omega, rfl, ?_, hb4⟩, by simp only [intOf]; omega⟩
      rw [HT.out, ← List.append_assoc]
      exact ow_of hown4

theorem val_drop (l : List Nat) (i x : Nat) (h : l[i]? = some x) : val (l.drop i) = x + 256 * val (l.drop (i + 1)) := by
  obtain ⟨hi, e⟩ := List.getElem?_eq_some_iff.1 h
  rw [List.drop_eq_getElem_cons hi, val, e]
theorem val_drop_lt (l : List Nat) (hb : Byt l) (h8 : l.length ≤ 8) (i : Nat) : val (l.drop i) < 18446744073709551616 := by
  have h := val_lt (l.drop i) (hb.drop i)
  have hl : (l.drop i).length ≤ 8 := by rw [List.length_drop]; omega
  have := Nat.pow_le_pow_right (n := 256) (by decide) hl
  omega
theorem unz_even (u : Nat) (h : u % 2 = 0) : unz u = ((u / 2 : Nat) : Int) := by unfold unz; rw [if_neg (by omega)]
theorem unz_odd (u : Nat) (h : u % 2 = 1) : unz u = -((u / 2 : Nat) : Int) - 1 := by unfold unz; rw [if_pos h]
set_option maxHeartbeats 1000000 in
theorem rtake_short (v : Value) (l : List Nat) (w : World) (hv : Sl w v l) (hb : Byt l) (hl : l.length ≤ 100000) (hno : ¬ (0 < l.length ∧ l.getD 0 0 ≤ 8 ∧ l.getD 0 0 < l.length)) :
    Calls Try.prog 62 #[v] w fun e w' => e = .returned (.tuple #[.int .i64 0, .int .i64 0]) ∧ Below w.heap.size w w' := by
  obtain ⟨q, cap, g, off, rfl, hc, hm, hp, hg, hr⟩ := hv.open
  by_cases h0 : 0 < l.length
  · obtain rfl := hp h0
    have d0 := hr 0 _ (getD_at h0)
    have hx0 := hb.getD 0
    generalize hn : l.length = n at *
    generalize hcc : l.getD 0 0 = c at *
    have e0 : ((n : Int) == 0) = false := by simp; omega
    rw [Nat.add_zero] at d0
    clear hr hp hg hb hv hcc
    by_cases h8 : c ≤ 8
    · have hcn : ¬ c < n := fun h => hno ⟨h0, h8, h⟩
      have hcn2 : (n : Int) < 1 + (c : Int) := by omega
      go_enter Try.func62, Try.ntmps62
      go_wp2_with fail
      go_ret2
      exact ⟨rfl, Below.refl _ _⟩
    · go_enter Try.func62, Try.ntmps62
      go_wp2_with fail
      go_ret2
      exact ⟨rfl, Below.refl _ _⟩
  · have e : l.length = 0 := by omega
    rw [e] at *
    clear hr hp hg hb h0 hv hno
    go_enter Try.func62, Try.ntmps62
    go_wp2_with fail
    go_ret2
    exact ⟨rfl, Below.refl _ _⟩
set_option maxHeartbeats 1000000 in
set_option maxRecDepth 100000 in
theorem rtake_long (v : Value) (l : List Nat) (w : World) (hv : Sl w v l) (hb : Byt l) (hl : l.length ≤ 100000) (h0 : 0 < l.length) (h8 : l.getD 0 0 ≤ 8) (hcn : l.getD 0 0 < l.length) :
    Calls Try.prog 62 #[v] w fun e w' => e = .returned (.tuple #[.int .i64 (if nOK l = true then nV l else 0), .int .i64 ((if nOK l = true then nS l else 0 : Nat) : Int)]) ∧ Below w.heap.size w w' := by
  have HNO : Hid (numB (nV l) = l.take (nS l) ↔ nOK l = true) := num_of hb h0 h8 hcn
  have HnB := (hb.drop 1).take (l.getD 0 0)
  have HNL : Hid ((nL l).length = l.getD 0 0) := nL_len hcn
  have HAt : Hid (∀ i, i < l.getD 0 0 → (nL l)[i]? = l[i + 1]?) := fun i hi => by
    show ((l.drop 1).take (l.getD 0 0))[i]? = _
    rw [List.getElem?_take_of_lt hi, List.getElem?_drop, Nat.add_comm]
  have HLt : Hid (∀ i, val ((nL l).drop i) < 18446744073709551616) := fun i => val_drop_lt (nL l) HnB (by rw [HNL.out]; exact h8) i
  have HVn : Hid (nV l = unz (val (nL l))) := rfl
  have HSn : Hid (nS l = 1 + l.getD 0 0) := rfl
  have hin := unz_in _ (HLt.out 0)
  rw [List.drop_zero] at hin
  obtain ⟨q, cap, g, off, rfl, hc, hm, hp, hg, hr⟩ := hv.open
  obtain rfl := hp h0
  have d0 := hr 0 _ (getD_at h0)
  have hx0 := hb.getD 0
  have hg0 := hg h0
  generalize hn : l.length = n at *
  generalize hcc : l.getD 0 0 = c at *
  have e0 : ((n : Int) == 0) = false := by simp; omega
  have hcn2 : ¬ (n : Int) < 1 + (c : Int) := by omega
  rw [Nat.add_zero] at d0
  have HR : Hid (BRow w g off l) := hr
  clear hr hp hg HnB
  go_enter Try.func62, Try.ntmps62
  go_wp2_with fail
  go_loopw [5, 6] (fun u i wr => ∃ k : Nat, k ≤ c ∧ i = .int .i64 (k : Int) ∧ u = .int .u64 ((val ((nL l).drop k) : Nat) : Int) ∧ wr = w) (fun _ i _ => (intOf i).toNat)
  case atStart =>
    refine ⟨c, by omega, ?_, ?_, rfl⟩
    · congr 1; omega
    · rw [List.drop_of_length_le (by rw [HNL.out]; omega)]; rfl
  case round =>
    obtain ⟨k, hk, rfl, rfl, rfl⟩ := hrel
    by_cases c2 : k = 0
    · subst c2
      have hU := HLt.out 0
      rw [List.drop_zero] at hU ⊢
      obtain ⟨q3, e3⟩ := sliced_form (some ⟨g, off, none⟩) 0 (1 + c) cap
      have s3 := hv.sub (Nat.zero_le (1 + c)) (by omega) (Nat.le_refl _) (by omega) e3.symm
      rw [List.drop_zero, Nat.sub_zero] at s3
      have HTL : Hid (l.take (nS l) = l.take (1 + c)) := by show _ = _; rw [HSn.out]
      rw [← HVn.out] at hin
      generalize hUU : val (nL l) = U at *
      have HB1 : Hid (Byt (numB (nV l))) := numB_byt _
      have HB2 : Hid (Byt (l.take (1 + c))) := hb.take _
      generalize hVV : nV l = x at *
      clear HLt HAt HNL hb HR d0
      by_cases hpar : U % 2 = 0
      · have hval : (U : Int) / 2 = x := by rw [HVn.out, unz_even U hpar]; omega
        have hp1 : ((U : Int) % 2 == 1) = false := by simp; omega
        have hp2 : ((U : Int).tmod 2 == 1) = false := by rw [Int.tmod_eq_emod_of_nonneg (by omega)]; exact hp1
        by_cases hok : nOK l = true
        · have HNT : Hid (numB x = l.take (1 + c)) := by show _ = _; rw [← HTL.out]; exact HNO.out.2 hok
          clear HNO HVn
          go_upto_region 12 with fail
          refine wp_region_held_drew (S := fun w' => Below wr.heap.size wr w') (by kernel_rfl) (ab_drew (Below.refl _ _)) (fun hHeld => ?_)
          refine takeH (i := 0) (some 55) rfl rfl (by kernel_rfl) (by kernel_rfl) (by kernel_rfl) (fun _ _ _ h => h) (by rfl) (fun w hSw => by (try dsimp only at hSw); go_simp; try rfl) hHeld ?_
          go_frame
          refine takeH (i := 3) (some 58) rfl rfl (by kernel_rfl) (by kernel_rfl) (by kernel_rfl) (fun _ _ _ h => h) (by rfl) (fun w hSw => by (try dsimp only at hSw); go_simp; try rfl) hHeld ?_
          go_frame
          refine takeH (i := 4) (some 59) rfl rfl (by kernel_rfl) (by kernel_rfl) (by kernel_rfl) (fun _ _ _ h => h) (by rfl) (fun w hSw => by (try dsimp only at hSw); go_simp; try rfl) hHeld ?_
          go_frame
          refine takeH (i := 5) (some 60) rfl rfl (by kernel_rfl) (by kernel_rfl) (by kernel_rfl) (fun _ _ _ h => h) (by rfl) (fun w hSw => by (try dsimp only at hSw); exact (slb_h_run (j := 1 + c) rfl rfl rfl (by omega) (by omega)).trans (by rw [e3])) hHeld ?_
          go_frame
          refine takeH (i := 6) (some 61) rfl rfl (by kernel_rfl) (by kernel_rfl) (by kernel_rfl) (fun _ _ _ h => h) (by rfl) (fun w hSw => by (try dsimp only at hSw); exact cv_run (x := .tmp 60) rfl rfl (s3.keep hSw)) hHeld ?_
          go_frame
          refine wpAnyH_ready (rs := [1]) (by kernel_rfl) (by simp) (AllReadyH.cons rfl (fun K hK => ?_) AllReadyH.nil)
          go_simp
          refine (number_ref _ _ hin.1 hin.2).mono ?_
          rintro e V3 ⟨v3, rfl, HO3, hb3⟩
          show K _ _
          have hHeld3 := ab_trans hHeld hb3
          refine hK.out _ _ hHeld3 (fun hHeld => ?_)
          clear hK K
          refine wpAnyH_ready (rs := [2]) (by kernel_rfl) (by simp) (AllReadyH.cons rfl (fun K hK => ?_) AllReadyH.nil)
          rw [if_pos (by rfl)]
          refine valWf (some 57) rfl _ (cv_run (x := .tmp 56) rfl rfl HO3.sl) ?_
          refine hK.out _ _ hHeld (fun hHeld => ?_)
          clear hK K
          go_frame
          rw [HNT.out]
          refine takeH (i := 7) (some 62) rfl rfl (by kernel_rfl) (by kernel_rfl) (by kernel_rfl) (fun _ _ _ h => h) (by rfl) (fun w hSw => by (try dsimp only at hSw); go_simp; try rfl) hHeld ?_
          go_frame
          refine wpAnyH_done (by kernel_rfl) ?_ _
          go_wp2_with fail
          go_ret2
          refine ⟨?_, hHeld⟩
          rw [HSn.out]
          rfl
        · have hne : strB (numB x) ≠ strB (l.take (1 + c)) := fun h => hok (HNO.out.1 (by rw [HTL.out]; exact strB_inj HB1.out HB2.out h))
          have hneb := strB_ne hne
          clear HNO HVn
          go_upto_region 12 with fail
          refine wp_region_held_drew (S := fun w' => Below wr.heap.size wr w') (by kernel_rfl) (ab_drew (Below.refl _ _)) (fun hHeld => ?_)
          refine takeH (i := 0) (some 55) rfl rfl (by kernel_rfl) (by kernel_rfl) (by kernel_rfl) (fun _ _ _ h => h) (by rfl) (fun w hSw => by (try dsimp only at hSw); go_simp; try rfl) hHeld ?_
          go_frame
          refine takeH (i := 3) (some 58) rfl rfl (by kernel_rfl) (by kernel_rfl) (by kernel_rfl) (fun _ _ _ h => h) (by rfl) (fun w hSw => by (try dsimp only at hSw); go_simp; try rfl) hHeld ?_
          go_frame
          refine takeH (i := 4) (some 59) rfl rfl (by kernel_rfl) (by kernel_rfl) (by kernel_rfl) (fun _ _ _ h => h) (by rfl) (fun w hSw => by (try dsimp only at hSw); go_simp; try rfl) hHeld ?_
          go_frame
          refine takeH (i := 5) (some 60) rfl rfl (by kernel_rfl) (by kernel_rfl) (by kernel_rfl) (fun _ _ _ h => h) (by rfl) (fun w hSw => by (try dsimp only at hSw); exact (slb_h_run (j := 1 + c) rfl rfl rfl (by omega) (by omega)).trans (by rw [e3])) hHeld ?_
          go_frame
          refine takeH (i := 6) (some 61) rfl rfl (by kernel_rfl) (by kernel_rfl) (by kernel_rfl) (fun _ _ _ h => h) (by rfl) (fun w hSw => by (try dsimp only at hSw); exact cv_run (x := .tmp 60) rfl rfl (s3.keep hSw)) hHeld ?_
          go_frame
          refine wpAnyH_ready (rs := [1]) (by kernel_rfl) (by simp) (AllReadyH.cons rfl (fun K hK => ?_) AllReadyH.nil)
          go_simp
          refine (number_ref _ _ hin.1 hin.2).mono ?_
          rintro e V3 ⟨v3, rfl, HO3, hb3⟩
          show K _ _
          have hHeld3 := ab_trans hHeld hb3
          refine hK.out _ _ hHeld3 (fun hHeld => ?_)
          clear hK K
          refine wpAnyH_ready (rs := [2]) (by kernel_rfl) (by simp) (AllReadyH.cons rfl (fun K hK => ?_) AllReadyH.nil)
          rw [if_pos (by rfl)]
          refine valWf (some 57) rfl _ (cv_run (x := .tmp 56) rfl rfl HO3.sl) ?_
          refine hK.out _ _ hHeld (fun hHeld => ?_)
          clear hK K
          go_frame
          refine takeH (i := 7) (some 62) rfl rfl (by kernel_rfl) (by kernel_rfl) (by kernel_rfl) (fun _ _ _ h => h) (by rfl) (fun w hSw => by (try dsimp only at hSw); go_simp; try rfl) hHeld ?_
          go_frame
          refine wpAnyH_done (by kernel_rfl) ?_ _
          go_wp2_with fail
          go_ret2
          exact ⟨rfl, hHeld⟩
      · have hval : -((U : Int) / 2) - 1 = x := by rw [HVn.out, unz_odd U (by omega)]; omega
        have hp1 : ((U : Int) % 2 == 1) = true := by simp; omega
        have hp2 : ((U : Int).tmod 2 == 1) = true := by rw [Int.tmod_eq_emod_of_nonneg (by omega)]; exact hp1
        by_cases hok : nOK l = true
        · have HNT : Hid (numB x = l.take (1 + c)) := by show _ = _; rw [← HTL.out]; exact HNO.out.2 hok
          clear HNO HVn
          go_upto_region 12 with fail
          refine wp_region_held_drew (S := fun w' => Below wr.heap.size wr w') (by kernel_rfl) (ab_drew (Below.refl _ _)) (fun hHeld => ?_)
          refine takeH (i := 0) (some 55) rfl rfl (by kernel_rfl) (by kernel_rfl) (by kernel_rfl) (fun _ _ _ h => h) (by rfl) (fun w hSw => by (try dsimp only at hSw); go_simp; try rfl) hHeld ?_
          go_frame
          refine takeH (i := 3) (some 58) rfl rfl (by kernel_rfl) (by kernel_rfl) (by kernel_rfl) (fun _ _ _ h => h) (by rfl) (fun w hSw => by (try dsimp only at hSw); go_simp; try rfl) hHeld ?_
          go_frame
          refine takeH (i := 4) (some 59) rfl rfl (by kernel_rfl) (by kernel_rfl) (by kernel_rfl) (fun _ _ _ h => h) (by rfl) (fun w hSw => by (try dsimp only at hSw); go_simp; try rfl) hHeld ?_
          go_frame
          refine takeH (i := 5) (some 60) rfl rfl (by kernel_rfl) (by kernel_rfl) (by kernel_rfl) (fun _ _ _ h => h) (by rfl) (fun w hSw => by (try dsimp only at hSw); exact (slb_h_run (j := 1 + c) rfl rfl rfl (by omega) (by omega)).trans (by rw [e3])) hHeld ?_
          go_frame
          refine takeH (i := 6) (some 61) rfl rfl (by kernel_rfl) (by kernel_rfl) (by kernel_rfl) (fun _ _ _ h => h) (by rfl) (fun w hSw => by (try dsimp only at hSw); exact cv_run (x := .tmp 60) rfl rfl (s3.keep hSw)) hHeld ?_
          go_frame
          refine wpAnyH_ready (rs := [1]) (by kernel_rfl) (by simp) (AllReadyH.cons rfl (fun K hK => ?_) AllReadyH.nil)
          go_simp
          refine (number_ref _ _ hin.1 hin.2).mono ?_
          rintro e V3 ⟨v3, rfl, HO3, hb3⟩
          show K _ _
          have hHeld3 := ab_trans hHeld hb3
          refine hK.out _ _ hHeld3 (fun hHeld => ?_)
          clear hK K
          refine wpAnyH_ready (rs := [2]) (by kernel_rfl) (by simp) (AllReadyH.cons rfl (fun K hK => ?_) AllReadyH.nil)
          rw [if_pos (by rfl)]
          refine valWf (some 57) rfl _ (cv_run (x := .tmp 56) rfl rfl HO3.sl) ?_
          refine hK.out _ _ hHeld (fun hHeld => ?_)
          clear hK K
          go_frame
          rw [HNT.out]
          refine takeH (i := 7) (some 62) rfl rfl (by kernel_rfl) (by kernel_rfl) (by kernel_rfl) (fun _ _ _ h => h) (by rfl) (fun w hSw => by (try dsimp only at hSw); go_simp; try rfl) hHeld ?_
          go_frame
          refine wpAnyH_done (by kernel_rfl) ?_ _
          go_wp2_with fail
          go_ret2
          refine ⟨?_, hHeld⟩
          rw [HSn.out]
          rfl
        · have hne : strB (numB x) ≠ strB (l.take (1 + c)) := fun h => hok (HNO.out.1 (by rw [HTL.out]; exact strB_inj HB1.out HB2.out h))
          have hneb := strB_ne hne
          clear HNO HVn
          go_upto_region 12 with fail
          refine wp_region_held_drew (S := fun w' => Below wr.heap.size wr w') (by kernel_rfl) (ab_drew (Below.refl _ _)) (fun hHeld => ?_)
          refine takeH (i := 0) (some 55) rfl rfl (by kernel_rfl) (by kernel_rfl) (by kernel_rfl) (fun _ _ _ h => h) (by rfl) (fun w hSw => by (try dsimp only at hSw); go_simp; try rfl) hHeld ?_
          go_frame
          refine takeH (i := 3) (some 58) rfl rfl (by kernel_rfl) (by kernel_rfl) (by kernel_rfl) (fun _ _ _ h => h) (by rfl) (fun w hSw => by (try dsimp only at hSw); go_simp; try rfl) hHeld ?_
          go_frame
          refine takeH (i := 4) (some 59) rfl rfl (by kernel_rfl) (by kernel_rfl) (by kernel_rfl) (fun _ _ _ h => h) (by rfl) (fun w hSw => by (try dsimp only at hSw); go_simp; try rfl) hHeld ?_
          go_frame
          refine takeH (i := 5) (some 60) rfl rfl (by kernel_rfl) (by kernel_rfl) (by kernel_rfl) (fun _ _ _ h => h) (by rfl) (fun w hSw => by (try dsimp only at hSw); exact (slb_h_run (j := 1 + c) rfl rfl rfl (by omega) (by omega)).trans (by rw [e3])) hHeld ?_
          go_frame
          refine takeH (i := 6) (some 61) rfl rfl (by kernel_rfl) (by kernel_rfl) (by kernel_rfl) (fun _ _ _ h => h) (by rfl) (fun w hSw => by (try dsimp only at hSw); exact cv_run (x := .tmp 60) rfl rfl (s3.keep hSw)) hHeld ?_
          go_frame
          refine wpAnyH_ready (rs := [1]) (by kernel_rfl) (by simp) (AllReadyH.cons rfl (fun K hK => ?_) AllReadyH.nil)
          go_simp
          refine (number_ref _ _ hin.1 hin.2).mono ?_
          rintro e V3 ⟨v3, rfl, HO3, hb3⟩
          show K _ _
          have hHeld3 := ab_trans hHeld hb3
          refine hK.out _ _ hHeld3 (fun hHeld => ?_)
          clear hK K
          refine wpAnyH_ready (rs := [2]) (by kernel_rfl) (by simp) (AllReadyH.cons rfl (fun K hK => ?_) AllReadyH.nil)
          rw [if_pos (by rfl)]
          refine valWf (some 57) rfl _ (cv_run (x := .tmp 56) rfl rfl HO3.sl) ?_
          refine hK.out _ _ hHeld (fun hHeld => ?_)
          clear hK K
          go_frame
          refine takeH (i := 7) (some 62) rfl rfl (by kernel_rfl) (by kernel_rfl) (by kernel_rfl) (fun _ _ _ h => h) (by rfl) (fun w hSw => by (try dsimp only at hSw); go_simp; try rfl) hHeld ?_
          go_frame
          refine wpAnyH_done (by kernel_rfl) ?_ _
          go_wp2_with fail
          go_ret2
          exact ⟨rfl, hHeld⟩
    · obtain ⟨x, hx⟩ : ∃ x, l[k]? = some x := ⟨l[k], List.getElem?_eq_getElem (by omega)⟩
      have hxb := hb.at hx
      have d := HR.out k x hx
      have hst := val_drop (nL l) (k - 1) x (by rw [HAt.out (k - 1) (by omega), show k - 1 + 1 = k by omega]; exact hx)
      rw [show k - 1 + 1 = k by omega] at hst
      have hlt := HLt.out (k - 1)
      have hlk := HLt.out k
      have HST : Hid (val ((nL l).drop (k - 1)) = x + 256 * val ((nL l).drop k)) := hst
      rw [hst] at hlt
      clear hst hx
      generalize hA : val ((nL l).drop k) = A at *
      have hk0 : (0 : Int) < (k : Int) := by omega
      have hkn : (k : Int) < (n : Int) := by omega
      have hkn2 : k < n := by omega
      go_wp2_with fail
      exact ⟨⟨k - 1, by omega, by congr 1; omega, by rw [HST.out]; congr 1; omega, trivial⟩, by simp only [intOf]; omega⟩
end Go.Proofs.Ytjbhicjnnghjjaa
namespace Go.Proofs.Ytjbhicjnnghjjaa
open Go.RowKit
set_option linter.unusedVariables false

/-- The bits that differ, as far as they have been looked at. -/
def bx (a b : Nat) : Nat → Nat
  | 0 => 0
  | k + 1 => bx a b k + (if a / 2 ^ k % 2 ≠ b / 2 ^ k % 2 then 2 ^ k else 0)
theorem xor_bit (a b : Nat) : (a ^^^ b) % 2 = if a % 2 ≠ b % 2 then 1 else 0 := by
  have h := Nat.xor_mod_two_pow (a := a) (b := b) (n := 1)
  rw [Nat.pow_one] at h
  rw [h]
  rcases Nat.mod_two_eq_zero_or_one a with ha | ha <;> rcases Nat.mod_two_eq_zero_or_one b with hb | hb <;> rw [ha, hb] <;> rfl
theorem bx_xor (a b k : Nat) : bx a b k = (a ^^^ b) % 2 ^ k := by
  induction k with
  | zero => simp [bx, Nat.mod_one]
  | succ k ih =>
    rw [bx, ih, Nat.mod_pow_succ, Nat.xor_div_two_pow, xor_bit]
    split <;> simp
theorem xor_low (s b : Nat) (hb : b < 256) : s - s % 256 + bx (s % 256) b 8 = s ^^^ b := by
  have h1 := Nat.xor_mod_two_pow (a := s) (b := b) (n := 8)
  have h2 := Nat.xor_div_two_pow (a := s) (b := b) (n := 8)
  have h3 : b / 2 ^ 8 = 0 := Nat.div_eq_of_lt (by omega)
  have h4 : b % 2 ^ 8 = b := Nat.mod_eq_of_lt (by omega)
  rw [h3, Nat.xor_zero] at h2
  rw [h4] at h1
  have e : bx (s % 256) b 8 = (s ^^^ b) % 2 ^ 8 := by
    rw [bx_xor, Nat.xor_mod_two_pow, Nat.mod_mod_of_dvd _ (by decide), h4, h1]
  rw [e]
  have h5 := Nat.div_add_mod (s ^^^ b) (2 ^ 8)
  have h6 := Nat.div_add_mod s (2 ^ 8)
  rw [h2] at h5
  omega
theorem bx_le (a b k : Nat) : bx a b k < 2 ^ k := by rw [bx_xor]; exact Nat.mod_lt _ (Nat.two_pow_pos k)
set_option maxHeartbeats 1000000 in
theorem rsum_any (v : Value) (l : List Nat) (w : World) (hv : Sl w v l) (hb : Byt l) :
    Calls Try.prog 54 #[v] w fun e w' => e = .returned (.int .u32 ((sm l : Nat) : Int)) ∧ Below w.heap.size w w' := by
  obtain ⟨q, cap, g, off, rfl, hc, hm, hp, hg, hr⟩ := hv.open
  clear hv
  generalize hn : l.length = n at *
  go_enter Try.func54, Try.ntmps54
  go_wp2_with fail
  go_loopw [3, 4] (fun s i wr => ∃ k : Nat, k ≤ n ∧ i = .int .i64 (k : Int) ∧ s = .int .u64 ((sm (l.take k) : Nat) : Int) ∧ Below w.heap.size w wr) (fun _ i _ => n - (intOf i).toNat)
  case atStart => exact ⟨0, by omega, rfl, rfl, Below.refl _ _⟩
  case round =>
    obtain ⟨k, hk, rfl, rfl, hbw⟩ := hrel
    have hs := sm_lt (l.take k)
    by_cases c : k = n
    · have hki : ¬ (k : Int) < (n : Int) := by omega
      rw [List.take_of_length_le (by omega)] at hs ⊢
      clear hp hg hr hb
      go_wp2_with fail
      go_ret
      exact ⟨rfl, hbw⟩
    · obtain ⟨x, hx⟩ : ∃ x, l[k]? = some x := ⟨l[k], List.getElem?_eq_getElem (by omega)⟩
      obtain rfl := hp (by omega)
      have hg1 := hg (by omega)
      have d0 := hr k x hx
      have hxb := hb.at hx
      have hki : (k : Int) < (n : Int) := by omega
      have hkn : k < n := by omega
      have HS : Hid (sm (l.take (k + 1)) = stp (sm (l.take k)) x) := by
        show _ = _
        rw [List.take_add_one, hx, Option.toList_some]
        unfold sm
        rw [smF_snoc]
      generalize hA : sm (l.take k) = s at *
      clear hr hp hg hb hx
      obtain ⟨L, hLd⟩ : ∃ L, s % 256 = L := ⟨_, rfl⟩
      have hlow : L < 256 := by rw [← hLd]; exact Nat.mod_lt _ (by decide)
      have hle : L ≤ s := by rw [← hLd]; exact Nat.mod_le _ _
      have HX' : Hid (s - L + bx L x 8 = s ^^^ x) := by show _ = _; rw [← hLd]; exact xor_low s x hxb
      have hL1 : ((s : Nat) : Int) % 256 = ((L : Nat) : Int) := by omega
      have hL2 : ((s : Nat) : Int).tmod 256 = ((L : Nat) : Int) := by rw [Int.tmod_eq_emod_of_nonneg (by omega)]; omega
      have hL3 : ((s : Nat) : Int) - ((L : Nat) : Int) = ((s - L : Nat) : Int) := by omega
      have hBs : s - L ≤ 4294967296 := by omega
      generalize hB : s - L = B at *
      clear hLd
      go_wp2_with fail
      go_loopw [3, 6] (fun u i wr' => ∃ j : Nat, j ≤ 8 ∧ i = .int .i64 (j : Int) ∧ u = .int .u64 ((B + bx L x j : Nat) : Int) ∧ Below w.heap.size w wr') (fun _ i _ => 8 - (intOf i).toNat)
      case atStart => exact ⟨0, by omega, rfl, by simp [bx], hbw⟩
      case round =>
        clear hbw hL1 hL2 hL3
        obtain ⟨j, hj, rfl, rfl, hbw⟩ := hrel
        by_cases c2 : j = 8
        · subst c2
          have hxl := xor_lt hs hxb
          have HST : Hid (((s ^^^ x) * 16777619) % 4294967296 = stp s x) := rfl
          rw [HX'.out]
          generalize hY : s ^^^ x = Y at *
          have hY1 : (Y : Int) * 16777619 % 4294967296 = ((stp s x : Nat) : Int) := by rw [← HST.out]; omega
          have hY2 : ((Y : Int) * 16777619).tmod 4294967296 = ((stp s x : Nat) : Int) := by rw [Int.tmod_eq_emod_of_nonneg (by omega)]; exact hY1
          go_wp2_with fail
          exact ⟨⟨k + 1, by omega, rfl, by rw [HS.out], hbw⟩, by simp only [intOf]; omega⟩
        · have hj8 : j < 8 := by omega
          have hj8i : (j : Int) < 8 := by omega
          have hbx := bx_le L x j
          have hp2 : 2 ^ j ≤ 128 := by have := Nat.pow_le_pow_right (n := 2) (by decide) (show j ≤ 7 by omega); omega
          have d := keep_cell hbw d0 hg1
          have HBX : Hid (bx L x (j + 1) = bx L x j + (if L / 2 ^ j % 2 ≠ x / 2 ^ j % 2 then 2 ^ j else 0)) := rfl
          have hP1 : (2 : Int) ^ j = ((2 ^ j : Nat) : Int) := by rw [Int.natCast_pow]; rfl
          have hPp : 0 < 2 ^ j := Nat.two_pow_pos j
          have hPw : IntKind.u64.wrap ((2 : Int) ^ j) = ((2 ^ j : Nat) : Int) := by rw [hP1, IntKind.wrap_u64]; omega
          clear hP1
          have hbj : bx L x j < 256 := by omega
          generalize hP : 2 ^ j = P at HBX hPp hPw hp2
          have hP0 : ((P : Int) == 0) = false := by simp; omega
          have hP0' : ¬ (P : Int) = 0 := by omega
          have q1 : ((L : Nat) : Int) / ((P : Nat) : Int) = ((L / P : Nat) : Int) := by rw [Int.natCast_ediv]
          have q2 : ((x : Nat) : Int) / ((P : Nat) : Int) = ((x / P : Nat) : Int) := by rw [Int.natCast_ediv]
          have q3 : ((L : Nat) : Int).tdiv ((P : Nat) : Int) = ((L / P : Nat) : Int) := by rw [Int.tdiv_eq_ediv_of_nonneg (by omega)]; exact q1
          have q4 : ((x : Nat) : Int).tdiv ((P : Nat) : Int) = ((x / P : Nat) : Int) := by rw [Int.tdiv_eq_ediv_of_nonneg (by omega)]; exact q2
          have hdl : L / P ≤ L := Nat.div_le_self _ _
          have hdx : x / P ≤ x := Nat.div_le_self _ _
          generalize hM : L / P = M at *
          generalize hN : x / P = N at *
          clear hbx hM hN
          have x1 := cls_cell d (Nat.lt_of_lt_of_le hg1 hbw.size)
          by_cases ceq : M % 2 = N % 2
          · have HB0 : Hid (bx L x (j + 1) = bx L x j) := by show _ = _; rw [HBX.out, if_neg (by simp [ceq])]; rfl
            have hne1 : (((M : Nat) : Int) % 2 != ((N : Nat) : Int) % 2) = false := by simp; omega
            have hne2 : (((M : Nat) : Int).tmod 2 != ((N : Nat) : Int).tmod 2) = false := by rw [Int.tmod_eq_emod_of_nonneg (by omega), Int.tmod_eq_emod_of_nonneg (by omega)]; exact hne1
            go_upto_region 11 with fail
            refine wp_region_below (by kernel_rfl) (by kernel_rfl) ?_
            have HZ := cls_some wr
            repeat (go_big_quiet_step (fail))
            refine wpQuiet_nil ?_
            rintro _ ⟨y, rfl⟩
            obtain ⟨V9, hb9⟩ := y
            dsimp only
            clear x1 HZ d
            go_wp2_with fail
            exact ⟨⟨j + 1, by omega, rfl, by rw [HB0.out], ab_trans hbw hb9⟩, by simp only [intOf]; omega⟩
          · have HB0 : Hid (bx L x (j + 1) = bx L x j + P) := by show _ = _; rw [HBX.out, if_pos ceq]
            have hne1 : (((M : Nat) : Int) % 2 != ((N : Nat) : Int) % 2) = true := by simp; omega
            have hne2 : (((M : Nat) : Int).tmod 2 != ((N : Nat) : Int).tmod 2) = true := by rw [Int.tmod_eq_emod_of_nonneg (by omega), Int.tmod_eq_emod_of_nonneg (by omega)]; exact hne1
            go_upto_region 11 with fail
            refine wp_region_below (by kernel_rfl) (by kernel_rfl) ?_
            have HZ := cls_some wr
            repeat (go_big_quiet_step (fail))
            refine wpQuiet_nil ?_
            rintro _ ⟨y, rfl⟩
            obtain ⟨V9, hb9⟩ := y
            dsimp only
            clear x1 HZ d
            go_wp2_with fail
            exact ⟨⟨j + 1, by omega, rfl, by rw [HB0.out]; congr 1; omega, ab_trans hbw hb9⟩, by simp only [intOf]; omega⟩
end Go.Proofs.Ytjbhicjnnghjjaa
