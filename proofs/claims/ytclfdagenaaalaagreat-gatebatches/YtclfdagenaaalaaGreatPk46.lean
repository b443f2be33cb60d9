/-
  note.Spread, Places, Ballot.
-/
import Derived.Test.YtclfdagenaaalaaGreatPk40
import Derived.Test.YtclfdagenaaalaaGreatPk44
import Derived.Laws.CopyRow
import Derived.Laws.IdiomCopy
namespace Go.Proofs.YtclfdagenaaalaaGreat
set_option maxRecDepth 100000
open Go.RowKit Go.Shelf
set_option linter.unusedVariables false

/-- A place's numbers; the places of numbers. -/
def plN (p : Nat → Int) : List Int := [p 0, p 1]
def plAt (l : List Int) (j : Nat) : Nat → Int := fun i => l.getD (2 * j + i) 0
def plsL (l : List Int) (m : Nat) : List (Nat → Int) := (List.range m).map (plAt l)
theorem plsL_len (l : List Int) (m : Nat) : (plsL l m).length = m := by simp [plsL]
def plsU (l : List Int) (m j : Nat) : List (Nat → Int) := plsL l j ++ List.replicate (m - j) zc
theorem plsU_next (l : List Int) (m j : Nat) (h : j < m) : (plsU l m j).set j (plAt l j) = plsU l m (j + 1) := by
  obtain ⟨d, rfl⟩ : ∃ d, m = j + d + 1 := ⟨m - j - 1, by omega⟩
  unfold plsU
  rw [List.set_append_right _ _ (by simp [plsL]), plsL_len, Nat.sub_self, show j + d + 1 - j = d + 1 by omega, show j + d + 1 - (j + 1) = d by omega, List.replicate_succ, List.set_cons_zero]
  unfold plsL
  rw [List.range_succ, List.map_append, List.append_assoc]
  rfl
theorem plsU_end (l : List Int) (m : Nat) : plsU l m m = plsL l m := by simp [plsU]
theorem plN_len : ∀ ps : List (Nat → Int), (ps.flatMap plN).length = 2 * ps.length
  | [] => rfl
  | p :: ps => by rw [List.flatMap_cons, List.length_append, plN_len ps]; simp [plN]; omega
theorem plN_at : ∀ (ps : List (Nat → Int)) (j : Nat) (p : Nat → Int), ps[j]? = some p → (ps.flatMap plN)[2 * j]? = some (p 0) ∧ (ps.flatMap plN)[2 * j + 1]? = some (p 1)
  | [], j, p, h => by simp at h
  | x :: ps, 0, p, h => by simp at h; subst h; simp [plN]
  | x :: ps, j + 1, p, h => by
    have := plN_at ps j p (by simpa using h)
    rw [List.flatMap_cons]
    refine ⟨?_, ?_⟩
    · rw [List.getElem?_append_right (by simp [plN]; omega), show 2 * (j + 1) - (plN x).length = 2 * j by simp [plN]; omega]; exact this.1
    · rw [List.getElem?_append_right (by simp [plN]; omega), show 2 * (j + 1) + 1 - (plN x).length = 2 * j + 1 by simp [plN]; omega]; exact this.2
/-- Places come back. -/
theorem pls_back (ps : List (Nat → Int)) : EqL 2 (plsL (ps.flatMap plN) ps.length) ps := by
  refine ⟨plsL_len _ _, fun j a b ha hb i hi => ?_⟩
  have hj : j < ps.length := (List.getElem?_eq_some_iff.1 hb).1
  simp [plsL, hj] at ha
  subst ha
  have := plN_at ps j b hb
  unfold plAt
  have hi2 : i = 0 ∨ i = 1 := by omega
  rcases hi2 with rfl | rfl
  · rw [Nat.add_zero, List.getD_eq_getElem?_getD, this.1]; rfl
  · rw [List.getD_eq_getElem?_getD, this.2]; rfl
/-- Numbers come back. -/
theorem nums_pls (l : List Int) (m : Nat) (hm : 2 * m ≤ l.length) : (plsL l m).flatMap plN = l.take (2 * m) := by
  apply List.ext_getElem?
  intro k
  by_cases hk : k < 2 * m
  · have h2 : k / 2 < m := by omega
    have hj : (plsL l m)[k / 2]? = some (plAt l (k / 2)) := by simp [plsL, h2]
    have := plN_at _ _ _ hj
    rw [List.getElem?_take_of_lt hk]
    have hp : k % 2 = 0 ∨ k % 2 = 1 := by omega
    rcases hp with hp | hp
    · have e : 2 * (k / 2) = k := by omega
      rw [e] at this
      rw [this.1]
      unfold plAt
      rw [e, Nat.add_zero, List.getD_eq_getElem?_getD, List.getElem?_eq_getElem (by omega)]; rfl
    · have e : 2 * (k / 2) + 1 = k := by omega
      rw [e] at this
      rw [this.2]
      unfold plAt
      rw [e, List.getD_eq_getElem?_getD, List.getElem?_eq_getElem (by omega)]; rfl
  · rw [List.getElem?_eq_none (by rw [plN_len, plsL_len]; omega), List.getElem?_eq_none (by rw [List.length_take]; omega)]
theorem cells_pl {W : World} {g o : Nat} {c : Nat → Int} (h : W.rangeAt g o (AG 2 k64 c).toList) : W.cell? ⟨g, o, none⟩ = some (.int .i64 (c 0)) ∧ W.cell? ⟨g, o + 1, none⟩ = some (.int .i64 (c 1)) := ⟨h 0 _ rfl, h 1 _ rfl⟩
theorem infoPlc : (Tryz.prog.info? 24).map (fun i => (i.zero, i.size, i.bytes)) = some (some (.agg (AG 2 k64 zc)), 2, 16) := by kernel_rfl
theorem info_plz : (Tryz.prog.info? 24).map (·.size) = some 2 := by kernel_rfl

section
variable {ops : Array Oper} {rest : List Oper} {o : Oper} {a : Act} {w : World} {Q : Exit → Act → World → Prop}
/-- A struct into the middle of an own row. -/
theorem st_so (hw : Region.wanted o (yielded ops a.tmps) = true) {e : TypeId} {k : Nat} {ks : Nat → IntKind} (hk : 0 < k) (hi : (Tryz.prog.info? e).map (·.size) = some k) {x y : Operand} (ho : o.op = .store e x y) {base n g cap m : Nat} {L : List (Nat → Int)}
    (h : w.ownsRow base e k (.slice (some ⟨g, 0, none⟩) n cap) n (flatA k ks L)) (hm : m < n) (c : Nat → Int) (hx : a.eval x = .pointer (some ⟨g, m * k, none⟩)) (hy : a.eval y = .agg (AG k ks c))
    (hK : ∀ W', W'.ownsRow base e k (.slice (some ⟨g, 0, none⟩) n cap) n (flatA k ks (L.set m c)) → Chg g w W' → wpList Tryz.prog ops Q rest (a.put o.dst undef) W') : wpList Tryz.prog ops Q (o :: rest) a w := by
  unfold wpList
  rw [if_pos hw]
  left
  exact soW o.dst rfl hk hi ho h hm c hx hy hK
end

set_option maxHeartbeats 1000000 in
set_option maxRecDepth 100000 in
theorem places_any (v : Value) (l : List Int) (m : Nat) (w : World) (hv : Is w v l) (hm : l.length / 2 = m) (hl : l.length ≤ 1000000) :
    Calls Tryz.prog 31 #[v] w fun e w' => ∃ v', e = .returned v' ∧ SO 24 2 k64 w' w.heap.size v' (plsL l m) ∧ Below w.heap.size w w' := by
  obtain ⟨q, cap, e⟩ := hv.form
  subst e
  have hc := hv.len
  have hq : ((l.length : Nat) : Int).tdiv 2 = (m : Int) := by rw [Int.tdiv_eq_ediv_of_nonneg (by omega)]; omega
  generalize hn : l.length = n at *
  go_enter Tryz.func31, Tryz.ntmps31
  go_upto_region 3 with (refine mk_so (k := 2) (ks := k64) rfl (by omega) Tryz.underlying60 infoPlc rfl rfl rfl (by omega) (by omega) ?_; intro W1 hO1 b1)
  go_wp2_with fail
  go_loopw [12] (fun i wr => ∃ j : Nat, j ≤ m ∧ i = .int .i64 (j : Int) ∧ wr.ownsRow w.heap.size 24 2 (.slice (some ⟨w.heap.size, 0, none⟩) m m) m (flatA 2 k64 (plsU l m j)) ∧ Below w.heap.size w wr) (fun i _ => m - (intOf i).toNat)
  case atStart => exact ⟨0, by omega, rfl, by simpa [plsU, plsL] using hO1, b1⟩
  case round =>
    clear hO1 b1
    obtain ⟨j, hj, rfl, hO, hb⟩ := hrel
    by_cases c : j = m
    · subst c
      rw [plsU_end] at hO
      go_wp2_with fail
      go_ret
      exact ⟨_, rfl, so_of hO (by omega), hb⟩
    · have hjm : j < m := by omega
      have hji : (j : Int) < (m : Int) := by omega
      obtain ⟨J, hJ⟩ : ∃ J, J = 2 * j := ⟨_, rfl⟩
      have h5 : (2 : Int) * (j : Int) = (J : Int) := by omega
      have HLE : Hid (J + 2 ≤ n) := by show _ ≤ _; omega
      have HP : Hid ((Ending.returned (.agg #[.int .i64 ((l.drop J).getD 0 0), .int .i64 ((l.drop J).getD 1 0)]) : Ending) = .returned (.agg (AG 2 k64 (plAt l j)))) := by
        show _ = _
        have e0 : (l.drop J).getD 0 0 = plAt l j 0 := by unfold plAt; rw [List.getD_eq_getElem?_getD, List.getElem?_drop, hJ, ← List.getD_eq_getElem?_getD]
        have e1 : (l.drop J).getD 1 0 = plAt l j 1 := by unfold plAt; rw [List.getD_eq_getElem?_getD, List.getElem?_drop, hJ, ← List.getD_eq_getElem?_getD]
        rw [e0, e1]
        rfl
      have HU : Hid ((plsU l m j).set j (plAt l j) = plsU l m (j + 1)) := plsU_next l m j hjm
      have HLD : Hid (2 ≤ (l.drop J).length) := by show _ ≤ _; rw [List.length_drop, hn]; omega
      clear hJ hq
      go_upto_region 7 with (first
        | (refine sli_l w rfl rfl J rfl rfl rfl (by have := HLE.out; omega) hv ?_; intro q5 i5)
        | (go_at_call 50; refine (placeOf_any _ _ _ (i5.keep hb) HLD.out).mono ?_; rintro e W5 ⟨he, b5⟩; rw [HP.out] at he; subst he)
        | (refine st_so rfl (k := 2) (ks := k64) (by omega) info_plz rfl (own_keep hO b5) hjm (plAt l j) rfl rfl ?_; intro W6 hO6 C6))
      rw [HU.out] at hO6
      have hb6 := ab_chg (ab_trans hb b5) C6 (Nat.le_refl _)
      clear hO hb b5 C6 i5
      go_wp2_with fail
      exact ⟨⟨j + 1, by omega, rfl, hO6, hb6⟩, by simp only [intOf]; omega⟩

set_option maxHeartbeats 1000000 in
set_option maxRecDepth 100000 in
theorem spread_ps (v : Value) (ps : List (Nat → Int)) (w : World) (hv : SR 2 k64 w v ps) (hl : ps.length ≤ 100000) :
    Calls Tryz.prog 27 #[v] w fun e w' => ∃ v', e = .returned v' ∧ Io w' w.heap.size v' (ps.flatMap plN) ∧ Below w.heap.size w w' := by
  obtain ⟨q, cap, g, off, rfl, hlc, hcm, hp, hg, hr⟩ := hv
  generalize hm : ps.length = m at *
  go_enter Tryz.func27, Tryz.ntmps27
  go_upto_region 2 with (refine mk_own (c := 2 * m) w rfl rfl Tryz.underlying34 infoInt rfl rfl (by omega) (by omega) (by unfold maxLen; omega) (Below.refl _ _) ?_; intro v1 W1 own1 nn1 b1 b1')
  go_wp2_with fail
  go_loopw [3, 12] (fun x i wr => ∃ j : Nat, j ≤ m ∧ i = .int .i64 (j : Int) ∧ Io wr w.heap.size x ((ps.take j).flatMap plN) ∧ Below w.heap.size w wr) (fun _ i _ => m - (intOf i).toNat)
  case atStart => exact ⟨0, by omega, rfl, io_of (l := []) own1, b1⟩
  case round =>
    clear own1 nn1 b1 b1'
    obtain ⟨j, hj, rfl, O, hb⟩ := hrel
    by_cases cj : j = m
    · subst cj
      have e1 : ps.take j = ps := List.take_of_length_le (by omega)
      rw [e1] at O
      go_wp2_with fail
      go_ret
      exact ⟨_, rfl, O, hb⟩
    · obtain ⟨x, hx⟩ : ∃ x, ps[j]? = some x := ⟨ps[j], List.getElem?_eq_getElem (by omega)⟩
      obtain rfl := hp (by omega)
      have hrr : wr.rangeAt g (off + j * 2) (AG 2 k64 x).toList := fun i v hv => (hb.cell (p := ⟨g, _, none⟩) (hg (by omega))).trans (hr j x hx i v hv)
      obtain ⟨x0, x1⟩ := cells_pl hrr
      have hji : (j : Int) < (m : Int) := by omega
      have hjm : j < m := by omega
      have HT : Hid ((ps.take (j + 1)).flatMap plN = (ps.take j).flatMap plN ++ [x 0, x 1]) := by
        show _ = _
        rw [List.take_add_one, hx, Option.toList_some, List.flatMap_append]
        simp [plN]
      have HL : Hid (((ps.take j).flatMap plN).length ≤ 200000) := by
        show _ ≤ _
        rw [plN_len, List.length_take]
        omega
      clear hrr hr hp hg hx hm
      generalize (ps.take j).flatMap plN = Y at *
      go_wp2_with (first
        | (refine bs_own rfl rfl [x 0, x 1] (by simp only [List.map_toArray, List.map_cons, List.map_nil]; rfl) (isl2 _ _ _) rfl (by decide) ?_; intro V3 hN3 b3 z3)
        | (at_builtin; refine app_i w rfl rfl rfl (O.keep (ab_trans (ab_alloc (Below.refl _ _) _) b3)) rfl (own_is hN3) rfl (by have := HL.out; show _ + 2 ≤ _; omega) (ab_trans (ab_alloc hb _) b3) ?_; intro v4 V4 hown4 hnil4 b4 hgr4 hat4))
      refine ⟨⟨j + 1, by omega, rfl, ?_, b4⟩, by simp only [intOf]; omega⟩
      rw [HT.out]
      exact io_of hown4
end Go.Proofs.YtclfdagenaaalaaGreat
