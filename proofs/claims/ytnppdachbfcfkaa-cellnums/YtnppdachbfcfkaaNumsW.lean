/-
  The numbers of a cell: cell.Nums.
-/
import Derived.Test.YtnppdachbfcfkaaRNums
import Derived.Maps.OwnIn
namespace Go.Proofs.Ytnppdachbfcfkaa
open Go.RowKit Go.Shelf
set_option linter.unusedVariables false
attribute [local go_sem] Oper.semAt_some

theorem own_kept {W W' : World} {row : Option Nat} {base e size n : Nat} {v : Value} {xs : List Value} (h : W.ownsRow base e size v n xs) (hg : W.grownBy W' row) (hr : ∀ r, row = some r → ∃ o : Obj, W.heap[r]? = some o ∧ o.isCells = false) : W'.ownsRow base e size v n xs := by
  refine ⟨h.1, ?_⟩
  rcases h.2 with h2 | ⟨g, cap, cur, h1, h2, h3, h4⟩
  · exact .inl h2
  · exact .inr ⟨g, cap, cur, h1, h2, blk_kept (b := g) h3 hg hr, h4⟩
/-- A number is written into an own row. -/
theorem own_set {W : World} {base n g cap i : Nat} {l : List Int} (h : W.ownsRow base 3 1 (.slice (some ⟨g, 0, none⟩) n cap) n (ints l)) (hi : i < n) (x : Int) :
    (W.setCell ⟨g, i, none⟩ (.int .i64 x)).ownsRow base 3 1 (.slice (some ⟨g, 0, none⟩) n cap) n (ints (l.set i x)) := by
  have hlen : l.length = n := by have := h.1; rw [ints_len, Nat.mul_one] at this; exact this
  rcases h.2 with ⟨h2, _⟩ | ⟨g', cap', cur, e, hb, hg, hnc, hcm, hcs, ht⟩
  · cases h2
  · cases e
    refine ⟨by rw [ints_len, List.length_set, hlen, Nat.mul_one], .inr ⟨g, cap, cur.setIfInBounds i (.int .i64 x), rfl, hb, Blk.set hg i _, hnc, hcm, by simpa using hcs, ?_⟩⟩
    rw [Array.toList_setIfInBounds, List.take_set, ht]
    simp [ints, List.map_set]
theorem own_blk {W : World} {base n g cap : Nat} {l : List Value} (h : W.ownsRow base 3 1 (.slice (some ⟨g, 0, none⟩) n cap) n l) : ∃ cur, Blk W g cur 3 := by
  rcases h.2 with ⟨h2, _⟩ | ⟨g', cap', cur, e, hb, hg, _⟩
  · cases h2
  · cases e; exact ⟨cur, hg⟩
theorem blk_apart {W : World} {b c : Nat} {vs us : Array Value} {t u : TypeId} (h : Blk W b vs t) (k : Blk W c us u) (hn : t ≠ u) : b ≠ c := by
  rintro rfl
  have e : W.heap[b]? = _ := h
  have f : W.heap[b]? = _ := k
  rw [e] at f
  cases f
  exact hn rfl
theorem own_chg {W W' : World} {base n g cap b : Nat} {l : List Value} (h : W.ownsRow base 3 1 (.slice (some ⟨g, 0, none⟩) n cap) n l) (hc : Chg b W W') (hn : g ≠ b) : W'.ownsRow base 3 1 (.slice (some ⟨g, 0, none⟩) n cap) n l := by
  refine ⟨h.1, ?_⟩
  rcases h.2 with ⟨h2, _⟩ | ⟨g', cap', cur, e, hb, hg, h4⟩
  · cases h2
  · cases e
    exact .inr ⟨g, cap, cur, rfl, hb, Blk.chg hg hc hn, h4⟩
section
variable {F : Fence} {fu : Nat} {ops : Array Oper} {rest : List Oper} {o : Oper} {a : Act} {w : World} {Q : Exit → Act → World → Prop}
theorem bs_ownI (hgd : o.guard = none) {n : Nat} {parts : Array (Nat × Operand)} (ho : o.op = .buildSlice 38 n parts) (xs : List Int) {vs : Array (Nat × Value)} (hl : parts.map (fun (i, x) => (i, a.eval x)) = vs)
    (hrun : (Instr.buildSlice 38 n vs).run Try.prog w = .ok (.slice (some ⟨w.heap.size, 0, none⟩) n n) (w.alloc (.cells (ints xs).toArray 3))) (hn : xs.length = n) (hm : n ≤ maxLen)
    (h : ∀ W', W' = w.alloc (.cells (ints xs).toArray 3) → W'.ownsRow w.heap.size 3 1 (.slice (some ⟨w.heap.size, 0, none⟩) n n) n (ints xs) → Below w.heap.size w W' → wpListIn F fu Try.prog ops Q rest (a.put o.dst (.slice (some ⟨w.heap.size, 0, none⟩) n n)) W') : wpListIn F fu Try.prog ops Q (o :: rest) a w := by
  refine wpListIn_plain hgd fun K hK' => ?_
  unfold Oper.wpIn
  refine ⟨?_, ?_⟩
  · simp [Oper.about, ho]
  · rw [Oper.semAt_plain F _ _ (by rw [ho]; intro c hc'; cases hc')]
    unfold execOp
    simp only [ho, Sem.run_bind, hl, hrun, Result.andThen_ok]
    exact hK' _ _ (h _ rfl (own_new w xs n hn hm _ (Nat.le_refl _)) ((Below.refl _ _).alloc (Nat.le_refl _) _))
end
/-- What has been gathered. -/
def toPV (p : Pl) : PV := ((p.1.1 : Int), p.1.2)
def gath (c : Nat → Int) (pre : List Pl) : List Int := hdF c (pre.length : Int) ++ flatP (pre.map toPV)
theorem gath_len (c : Nat → Int) (pre : List Pl) : (gath c pre).length = 10 + 2 * pre.length := by simp [gath, hdF, flatP_len]; omega
theorem gath_nine (c : Nat → Int) (pre : List Pl) : (gath c pre)[9]? = some (pre.length : Int) := by simp [gath, hdF]
theorem gath_snoc (c : Nat → Int) (pre : List Pl) (p : Pl) : (gath c pre).set 9 ((pre.length : Int) + 1) ++ [(p.1.1 : Int), p.1.2] = gath c (pre ++ [p]) := by
  unfold gath hdF
  rw [List.map_append, List.map_singleton, flatP_snoc]
  simp [toPV]
theorem prs_pp (h : Nat → Int) (hb) : ∀ k, k ≤ 65 → (prs h hb k).map toPV = pp h k
  | 0, _ => rfl
  | k + 1, hk => by
    have ih := prs_pp h hb k (by omega)
    rw [prs, dif_pos (by omega)]
    simp only [pp]
    by_cases z : h k = 0
    · rw [if_pos z, if_pos z, ih]
    · rw [if_neg z, if_neg z, List.map_append, ih]; rfl
theorem gath_all (c : Nat → Int) (hb) : gath c (prs (fun i => c (9 + i)) hb 65) = numsF c := by
  have h := prs_pp (fun i => c (9 + i)) hb 65 (by omega)
  have hl := congrArg List.length h
  rw [List.length_map] at hl
  unfold gath numsF
  rw [h, hl]
  rfl

set_option maxHeartbeats 1000000 in
theorem nums_any (c : Nat → Int) (w : World) (hc : Wf c) :
    Calls Try.prog 18 #[.agg (CA c)] w fun e w' => ∃ v, e = .returned v ∧ w'.ownsRow w.heap.size 3 1 v (numsF c).length (ints (numsF c)) ∧ v ≠ .slice none 0 0 ∧ Below w.heap.size w w' := by
  refine (callsIn_wide (n := 3)).1 (callsIn_of_wp_marks (n := 3) Try.func18 rfl trivial (wpIn_wide.2 ?_))
  simp only [Try.ntmps18, List.size_toArray, List.length_cons, List.length_nil, Nat.reduceAdd, Nat.reduceSub, Array.replicate_succ, Array.replicate_zero, List.push_toArray, List.append_toArray, List.nil_append, List.cons_append]
  go_upto_region 1 with fail
  have hA0 := Blk.new w (CA c) 31
  have hwA : Below w.heap.size w (w.alloc (.cells (CA c) 31)) := ab_alloc (Below.refl _ _) _
  have hzA : Hid (w.heap.size < (w.alloc (.cells (CA c) 31)).heap.size) := by show _ < _; simp
  generalize w.alloc (.cells (CA c) 31) = A at *
  obtain ⟨z0, z1, z2, z3, z4, z5, z6, z7, z8⟩ := hA0.nine
  have b2 := hc.1
  go_upto_region 2 with (refine bs_own rfl rfl (hdF c 0) (by simp only [List.map_toArray, List.map_cons, List.map_nil]; rfl) (isl10 _ _ _ _ _ _ _ _ _ _ _) rfl (by decide) ?_; intro V1 hN b1 y1)
  have hBX : Blk (V1.alloc (.cells #[.slice (some ⟨A.heap.size, 0, none⟩) 10 10] 38)) (A.heap.size + 1) #[.slice (some ⟨A.heap.size, 0, none⟩) 10 10] 38 := by rw [← y1]; exact Blk.new _ _ _
  have hN2 := own_keep hN ((Below.refl _ _).alloc (Nat.le_refl _) (.cells #[.slice (some ⟨A.heap.size, 0, none⟩) 10 10] 38))
  have hA2 := (hA0.keep b1).alloc (.cells #[.slice (some ⟨A.heap.size, 0, none⟩) 10 10] 38)
  have hwA2 := ab_alloc b1 (.cells #[.slice (some ⟨A.heap.size, 0, none⟩) 10 10] 38)
  clear z0 z1 z2 z3 z4 z5 z6 z7 z8 y1 b1 hN
  generalize V1.alloc (.cells #[.slice (some ⟨A.heap.size, 0, none⟩) 10 10] 38) = V2 at *
  have hbh : ∀ i, i < 65 → -9223372036854775808 ≤ c (9 + i) ∧ c (9 + i) ≤ 9223372036854775807 := fun i hi => hc.2 (9 + i) (by omega) (by omega)
  go_wp2_with (refine ld_hist9 rfl rfl hA2 rfl ?_)
  refine (pairs_any _ _).mono ?_
  rintro e V3 ⟨rfl, h8⟩
  have hP : Blk V3 V2.heap.size (HA fun i => c (9 + i)) 29 := by rw [h8]; exact Blk.new _ _ _
  have hBX3 : Blk V3 (A.heap.size + 1) #[.slice (some ⟨A.heap.size, 0, none⟩) 10 10] 38 := by rw [h8]; exact hBX.alloc _
  have hN3 : V3.ownsRow A.heap.size 3 1 (.slice (some ⟨A.heap.size, 0, none⟩) 10 10) 10 (ints (hdF c 0)) := by rw [h8]; exact own_keep hN2 ((Below.refl _ _).alloc (Nat.le_refl _) _)
  have hw3 : Below A.heap.size A V3 := by rw [h8]; exact ab_alloc hwA2 _
  clear h8 hBX hN2 hA2 hwA2
  dsimp only
  rename_i k1 hk1 k hk
  refine hk _ _ ?_
  show k1 _ _
  refine hk1 _ _ ?_
  refine (wpIn_wide (n := 3)).1 ?_
  gi_wp2
  refine wpIn_rangeFunc_ownF rfl (by omega) (gf := 37) (lb := #[.pointer (some ⟨V2.heap.size, 0, none⟩)]) rfl trivial (enters_of Try.func37 (by kernel_rfl) rfl)
    (pairs_stops 2 (by omega) V2.heap.size (fun i => c (9 + i)) hbh V3 hP (fun _ _ => True)) (fun _ _ => trivial) (fun _ _ _ _ _ _ _ _ => trivial) (Below.refl _ _) (fun _ => rfl)
    (fun pre W => (∃ g cap, Blk W (A.heap.size + 1) #[.slice (some ⟨g, 0, none⟩) (10 + 2 * pre.length) cap] 38 ∧ W.ownsRow A.heap.size 3 1 (.slice (some ⟨g, 0, none⟩) (10 + 2 * pre.length) cap) (10 + 2 * pre.length) (ints (gath c pre))) ∧ Below A.heap.size A W)
    (fun _ _ _ => False)
    (OwnFrom.and (Own.from (fun s A B row hs hg hr => by obtain ⟨g, cap, h1, h2⟩ := hs; exact ⟨g, cap, blk_kept h1 hg hr, own_kept h2 hg hr⟩) _) (ownFrom_below (Nat.le_refl _) hw3.size))
    (fun _ _ _ _ _ hs _ _ => hs)
    ⟨⟨_, _, hBX3, hN3⟩, hw3⟩ ?_ ?_ ?_ ?_ ?_
  rotate_left
  · intro l x W K hK
    gi_wp2
    exact hK
  · rintro l pre ⟨⟨p, v⟩, hp, hv⟩ W ⟨⟨g, cap, hX, hO⟩, hw⟩ hlt
    dsimp only at hp hv
    obtain ⟨cur, hcur⟩ := own_blk hO
    have hne : g ≠ A.heap.size + 1 := blk_apart hcur hX (by decide)
    have hne' : A.heap.size + 1 ≠ g := Ne.symm hne
    have cX := hX.at (i := 0) rfl
    have hgl := gath_len c pre
    obtain ⟨_, _, e9, _, _, _, _, hcs⟩ := own_cells hO (by simp)
    cases e9
    have c9 := hcs 9 (.int .i64 (pre.length : Int)) (by rw [ints_at, gath_nine]; rfl)
    have f9 := hcur.frozen 9
    have fX := hX.frozen 0
    have hO1 := own_set hO (i := 9) (by omega) ((pre.length : Int) + 1)
    have hX1 := hX.chg (chg_set W g 9 (.int .i64 ((pre.length : Int) + 1))) hne'
    have hgb : A.heap.size ≤ g := by
      rcases hO.2 with ⟨h2, _⟩ | ⟨g', cap', cur', e, hb, _⟩
      · cases h2
      · cases e; exact hb
    have hw1 := ab_chg hw (chg_set W g 9 (.int .i64 ((pre.length : Int) + 1))) hgb
    have HG : Hid ((gath c pre).set 9 ((pre.length : Int) + 1) ++ [(p : Int), v] = gath c (pre ++ [⟨(p, v), hp, hv⟩])) := gath_snoc c pre ⟨(p, v), hp, hv⟩
    have HL : Hid ((pre ++ [(⟨(p, v), hp, hv⟩ : Pl)]).length = pre.length + 1) := by show _ = _; simp
    obtain ⟨i0, hi, hz0, hz1, hz2⟩ := info_parts infoInt
    have h65 : (pre.length : Int) < 65 := by omega
    clear hcs hO hcur hgl
    generalize (gath c pre).set 9 ((pre.length : Int) + 1) = G at *
    gi_wp2_with (first
      | (refine bs_ownI rfl rfl [(p : Int), v] (by simp only [List.map_toArray, List.map_cons, List.map_nil]; rfl) (isl2 _ _ _) rfl (by decide) ?_; intro U hU hNv bU; have hO2 := own_keep hO1 bU; have hX2 := hX1.keep bU; have hw2 := ab_trans hw1 bU; have kU : KeepsOthers W U := (by rw [hU]; exact (KeepsOthers.setCell _ _ _).trans (KeepsOthers.alloc _ _)); clear hU)
      | (gi_at_builtin; refine wpListIn_append_own _ rfl _ _ 38 rfl A.heap.size 3 i0 (.int .i64 0) 1 8 Try.underlying38 hi hz0 hz1 hz2 rfl (by decide) _ _ _ rfl hO2 ⟨(W.setCell ⟨g, 9, none⟩ (.int .i64 ((pre.length : Int) + 1))).heap.size, 0, none⟩ 2 2 (ints [(p : Int), v]) rfl (by simp [ints]) ?c1 ?c2 ?c3 ?c4 ?c5 ?_))
    case c1 => intro j u hj; exact own_src hNv _ rfl j u hj
    case c2 => exact ints_one _
    case c3 => unfold maxLen; omega
    case c4 => omega
    case c5 => exact hw2.size
    intro v' U2 hown' hgrow hv'
    obtain ⟨cur2, hcur2⟩ := own_blk hO2
    obtain ⟨g', cap', rfl, _, hg', _, _, _⟩ := own_cells hown' hv'
    have hX3 : Blk U2 (A.heap.size + 1) #[.slice (some ⟨g, 0, none⟩) (10 + 2 * pre.length) cap] 38 := by
      unfold Blk; rw [hgrow.block _ hX2.lt (by intro e; cases e; exact hne rfl)]; exact hX2
    have hw3 : Below A.heap.size A U2 := hw2.grown hgrow hw2.size (fun r hr => by cases hr; exact hgb)
    have k2 : KeepsOthers U U2 := KeepsOthers.of_grownBy hgrow (fun j o hj ho => by
      cases hj
      have e : U.heap[g]? = _ := hcur2
      rw [e] at ho; cases ho; rfl)
    rw [ints_append, HG.out] at hown'
    obtain ⟨cur3, hcur3⟩ := own_blk hown'
    have hne3 : g' ≠ A.heap.size + 1 := blk_apart hcur3 hX3 (by decide)
    have cX3 := hX3.at (i := 0) rfl
    have fX3 := hX3.frozen 0
    have hX4 := hX3.set 0 (.slice (some ⟨g', 0, none⟩) (10 + 2 * pre.length + 2) cap')
    have C4 := chg_set U2 (A.heap.size + 1) 0 (.slice (some ⟨g', 0, none⟩) (10 + 2 * pre.length + 2) cap')
    have hO4 := own_chg hown' C4 hne3
    have hw4 := ab_chg hw3 C4 (by omega)
    gi_wp2
    refine ⟨kU.trans (k2.trans (KeepsOthers.setCell _ _ _)), trivial, ⟨g', cap', ?_, ?_⟩, hw4⟩
    · rw [HL.out, show 10 + 2 * (pre.length + 1) = 10 + 2 * pre.length + 2 from by omega]; exact hX4
    · rw [HL.out, show 10 + 2 * (pre.length + 1) = 10 + 2 * pre.length + 2 from by omega]; exact hO4
  · rintro D ys W hD rfl ⟨⟨g, cap, hX, hO⟩, hw⟩ hK
    rw [gath_all] at hO
    have cX := hX.at (i := 0) rfl
    have HL : Hid (10 + 2 * (prs (fun i => c (9 + i)) hbh 65).length = (numsF c).length) := by show _ = _; rw [← gath_all c hbh, gath_len]
    have hO2 := own_kept (own_less hO (base' := w.heap.size) (Nat.le_of_lt hzA.out)) (grownBy_putObj' W D (.deferred none)) (fun r e => by cases e; exact ⟨_, hK, rfl⟩)
    rw [HL.out] at hO2
    have hwD : Below w.heap.size w W := hwA.trans (hw.mono hwA.size)
    have hfin := hwD.trans (belowK_b (w := w) (Nat.le_refl _) W D _ (.deferred none) (by have := hwA.size; have := hw3.size; omega) hK rfl rfl)
    rw [HL.out] at cX
    go_wp2_with fail
    refine ⟨by simp, .inl ⟨_, _, rfl, run_takeDeferred hK, ?_⟩⟩
    refine ⟨.slice (some ⟨g, 0, none⟩) (numsF c).length cap, ?_, _, rfl, hO2, by simp, hfin⟩
    simp [results, Try.results18, go_sem]
  · rintro D c pre W _ _ h _
    exact h.elim
end Go.Proofs.Ytnppdachbfcfkaa
