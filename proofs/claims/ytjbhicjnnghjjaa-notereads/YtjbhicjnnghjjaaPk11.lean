/-
  note.Check: which notes are in form.
  note.numsOf: a note's numbers.
  note.Encode.
  Parts of slices of numbers; note.placeOf, counted.
-/
import Derived.Test.YtjbhicjnnghjjaaPk10
namespace Go.Proofs.Ytjbhicjnnghjjaa
open Go.RowKit Go.Shelf
set_option linter.unusedVariables false

theorem cells_op {W : World} {g off : Nat} {o : Nat → Int} (h : W.rangeAt g off (OA o).toList) : W.cell? ⟨g, off, none⟩ = some (.int .i64 (o 0)) ∧ W.cell? ⟨g, off + 1, none⟩ = some (.int .i64 (o 1)) ∧ W.cell? ⟨g, off + 2, none⟩ = some (.int .i64 (o 2)) ∧ W.cell? ⟨g, off + 3, none⟩ = some (.int .i64 (o 3)) ∧ W.cell? ⟨g, off + 4, none⟩ = some (.int .i64 (o 4)) :=
  ⟨h 0 _ rfl, h 1 _ rfl, h 2 _ rfl, h 3 _ rfl, h 4 _ rfl⟩
/-- A note's value. -/
abbrev ntV (N : Nt) (vn vo ve : Value) : Value := .agg #[.int .i64 N.k, .int .i64 N.f, .int .i64 N.t, vn, vo, ve]

/-- What Check answers. -/
def CkP (N : Nt) (e : Ending) : Prop := (GoodN N → e = .returned .nilIface) ∧ (¬ GoodN N → e = .returned (Err 2))
theorem notSome {k : Int} (h : ∀ a b c d e, shp k ≠ some (a, b, c, d, e)) : shp k = none := by
  cases e : shp k with
  | none => rfl
  | some x => obtain ⟨a, b, c, d, f⟩ := x; exact absurd e (h a b c d f)

set_option maxHeartbeats 1000000 in
set_option maxRecDepth 100000 in
theorem check_any (N : Nt) (vn vo ve : Value) (w : World) (h1 : Is w vn N.ns) (h2 : SR 5 k64 w vo N.os) (h3 : SR 76 ek w ve N.es) :
    Calls Try.prog 15 #[ntV N vn vo ve] w fun e w' => CkP N e ∧ Below w.heap.size w w' := by
  obtain ⟨k, f, t, ns, os, es⟩ := N
  obtain ⟨qn, cn, gn, on, rfl, _, hcn, -, -, -⟩ := h1
  obtain ⟨qo, co, go, oo, rfl, hlo, hco, hpo, hgo, hro⟩ := h2
  obtain ⟨qe, ce, ge, oe, rfl, _, hce, -, -, -⟩ := h3
  have HF := shp_fits k ns.length os.length es.length
  dsimp only at *
  have hnn : ns.length ≤ 9223372036854775807 := by omega
  have HF' : Hid (FitK k ns.length os.length es.length ↔ ∃ a b c d e, shp k = some (a, b, c, d, e) ∧ FitS a b c d e ns.length os.length es.length) := HF
  clear HF
  have HG : Hid (GoodN ⟨k, f, t, ns, os, es⟩ ↔ (0 ≤ f ∧ f ≤ 999) ∧ (0 ≤ t ∧ t ≤ 999) ∧ FitK k ns.length os.length es.length ∧ ∀ o ∈ os, o 1 = 1 ∨ o 1 = 2) := ⟨fun h => ⟨h.f, h.t, h.fit, h.os⟩, fun h => ⟨h.1, h.2.1, h.2.2.1, h.2.2.2⟩⟩
  generalize ns.length = n at *
  generalize hol : os.length = m at *
  generalize es.length = p at *
  go_enter Try.func15, Try.ntmps15
  by_cases hs : ∃ a b c d e, shp k = some (a, b, c, d, e)
  · obtain ⟨a, b, c, d, e, hs⟩ := hs
    have h2s := shp_two hs
    have HK : Hid (FitK k n m p ↔ FitS a b c d e n m p) := by
      refine HF'.out.trans ⟨?_, fun h => ⟨a, b, c, d, e, hs, h⟩⟩
      rintro ⟨a', b', c', d', e', h1, h2⟩
      rw [hs] at h1
      cases h1
      exact h2
    have HSh : Hid (shp k = some (a, b, c, d, e)) := hs
    clear hs HF'
    go_upto_region 2 with (go_at_call 33; refine (shape_ok _ a b c d e _ HSh.out).mono ?_; rintro r W1 ⟨rfl, b1⟩)
    have hB1 : Blk W1 w.heap.size #[.int .i64 k, .int .i64 f, .int .i64 t, .slice qn n cn, .slice qo m co, .slice qe p ce] 26 := (Blk.new w _ _).keep b1
    have hw1 : Below w.heap.size w W1 := ab_trans (ab_alloc (Below.refl _ _) _) b1
    have hB2 := hB1.alloc (.cells #[.int .i64 a, .int .i64 b, .int .i64 c, .int .i64 d, .int .i64 e] 68)
    have hS2 := Blk.new W1 #[.int .i64 a, .int .i64 b, .int .i64 c, .int .i64 d, .int .i64 e] 68
    have hw2 := ab_alloc hw1 (.cells #[.int .i64 a, .int .i64 b, .int .i64 c, .int .i64 d, .int .i64 e] 68)
    clear hB1 hw1 b1
    generalize W1.alloc (.cells #[.int .i64 a, .int .i64 b, .int .i64 c, .int .i64 d, .int .i64 e] 68) = V at *
    generalize W1.heap.size = B at *
    have d0 : V.cell? ⟨w.heap.size, 0, none⟩ = some (.int .i64 k) := hB2.at rfl
    have d1 : V.cell? ⟨w.heap.size, 1, none⟩ = some (.int .i64 f) := hB2.at rfl
    have d2 : V.cell? ⟨w.heap.size, 2, none⟩ = some (.int .i64 t) := hB2.at rfl
    have d3 : V.cell? ⟨w.heap.size, 3, none⟩ = some (.slice qn n cn) := hB2.at rfl
    have d4 : ∀ W, Below V.heap.size V W → W.cell? ⟨w.heap.size, 4, none⟩ = some (.slice qo m co) := fun W hb => (hB2.keep hb).at rfl
    have d4' := d4 V (Below.refl _ _)
    have d5 : V.cell? ⟨w.heap.size, 5, none⟩ = some (.slice qe p ce) := hB2.at rfl
    have s0 : V.cell? ⟨B, 0, none⟩ = some (.int .i64 a) := hS2.at rfl
    have s1 : V.cell? ⟨B, 1, none⟩ = some (.int .i64 b) := hS2.at rfl
    have s2 : V.cell? ⟨B, 2, none⟩ = some (.int .i64 c) := hS2.at rfl
    have s3 : V.cell? ⟨B, 3, none⟩ = some (.int .i64 d) := hS2.at rfl
    have s4 : V.cell? ⟨B, 4, none⟩ = some (.int .i64 e) := hS2.at rfl
    clear hB2 hS2
    by_cases cf : 0 ≤ f ∧ f ≤ 999
    · have ef : decide (0 ≤ f ∧ f ≤ 999) = true := decide_eq_true cf
      by_cases ct : 0 ≤ t ∧ t ≤ 999
      · have et : decide (0 ≤ t ∧ t ≤ 999) = true := decide_eq_true ct
        by_cases cs : FitS a b c d e n m p
        · have HY : Hid ((∀ o ∈ os, o 1 = 1 ∨ o 1 = 2) → CkP ⟨k, f, t, ns, os, es⟩ (.returned .nilIface)) := fun h => ⟨fun _ => rfl, fun hn => absurd (HG.out.2 ⟨cf, ct, HK.out.2 cs, h⟩) hn⟩
          have HNo : Hid ((∃ o ∈ os, ¬ (o 1 = 1 ∨ o 1 = 2)) → CkP ⟨k, f, t, ns, os, es⟩ (.returned (Err 2))) := fun ⟨o, ho, hb⟩ => ⟨fun h => absurd ((HG.out.1 h).2.2.2 o ho) hb, fun _ => rfl⟩
          clear HG HSh
          go_upto_region 4 with (first
            | (go_at_call 34; refine (isNode_any _ _).mono ?_; rintro r W3 ⟨rfl, rfl⟩)
            | (go_at_call 35; refine (fits_any a b c d e k f t qn qo qe n m p cn co ce _ h2s.1 ⟨h2s.2.1, h2s.2.2.1⟩ hnn).mono ?_; rintro r W4 ⟨⟨z, rfl, hz⟩, b4⟩; obtain rfl : z = true := hz.2 cs; clear hz))
          have d4'' := d4 W4 b4
          go_wp2_with fail
          have hw4 := ab_trans hw2 b4
          clear d0 d1 d2 d3 d4 d4' d5 s0 s1 s2 s3 s4 d4'' b4 hw2 cs HK cf ef ct et
          go_loopw [37] (fun i wr => ∃ j : Nat, j ≤ m ∧ i = .int .i64 (j : Int) ∧ (∀ o ∈ os.take j, o 1 = 1 ∨ o 1 = 2) ∧ Below w.heap.size w wr) (fun i _ => m - (intOf i).toNat)
          case atStart => exact ⟨0, by omega, rfl, fun o ho => by simp at ho, hw4⟩
          case round =>
            clear hw4
            obtain ⟨j, hj, rfl, hgood, hb⟩ := hrel
            have HGd : Hid (∀ o ∈ os.take j, o 1 = 1 ∨ o 1 = 2) := hgood
            clear hgood
            by_cases cj : j = m
            · subst cj
              have HE : Hid (CkP ⟨k, f, t, ns, os, es⟩ (.returned .nilIface)) := HY.out (by have := HGd.out; rwa [List.take_of_length_le (by omega)] at this)
              go_wp2_with fail
              go_ret
              exact ⟨HE.out, hb⟩
            · obtain ⟨x, hx⟩ : ∃ x, os[j]? = some x := ⟨os[j], List.getElem?_eq_getElem (by omega)⟩
              obtain rfl := hpo (by omega)
              have hr : wr.rangeAt go (oo + j * 5) (OA x).toList := fun i v hv => (hb.cell (p := ⟨go, _, none⟩) (hgo (by omega))).trans (hro j x hx i v hv)
              obtain ⟨x0, x1, x2, x3, x4⟩ := cells_op hr
              have hji : (j : Int) < (m : Int) := by omega
              have hjm : j < m := by omega
              have HX : Hid (x ∈ os) := List.mem_of_getElem? hx
              have HT : Hid (os.take (j + 1) = os.take j ++ [x]) := by show _ = _; rw [List.take_add_one, hx, Option.toList_some]
              clear hr hro hpo hgo hx hol
              by_cases c1 : x 1 = 1
              · have e1 : (x 1 != 1) = false := by simp [c1]
                go_wp2_with fail
                refine ⟨⟨j + 1, by omega, rfl, ?_, ab_alloc hb _⟩, by simp only [intOf]; omega⟩
                intro o ho
                rw [HT.out] at ho
                rcases List.mem_append.1 ho with ho | ho
                · exact HGd.out o ho
                · simp at ho; subst ho; exact .inl c1
              · have e1 : (x 1 != 1) = true := by simp [c1]
                by_cases c2 : x 1 = 2
                · have e2 : (x 1 != 2) = false := by simp [c2]
                  go_wp2_with fail
                  refine ⟨⟨j + 1, by omega, rfl, ?_, ab_alloc hb _⟩, by simp only [intOf]; omega⟩
                  intro o ho
                  rw [HT.out] at ho
                  rcases List.mem_append.1 ho with ho | ho
                  · exact HGd.out o ho
                  · simp at ho; subst ho; exact .inr c2
                · have e2 : (x 1 != 2) = true := by simp [c2]
                  have HE : Hid (CkP ⟨k, f, t, ns, os, es⟩ (.returned (Err 2))) := HNo.out ⟨x, HX.out, by omega⟩
                  go_wp2_with fail
                  go_ret
                  exact ⟨HE.out, ab_alloc hb _⟩
        · have HNo : Hid (CkP ⟨k, f, t, ns, os, es⟩ (.returned (Err 2))) := ⟨fun h => absurd (HK.out.1 (HG.out.1 h).2.2.1) cs, fun _ => rfl⟩
          go_wp2_with (first
            | (go_at_call 34; refine (isNode_any _ _).mono ?_; rintro r W3 ⟨rfl, rfl⟩)
            | (go_at_call 35; refine (fits_any a b c d e k f t qn qo qe n m p cn co ce _ h2s.1 ⟨h2s.2.1, h2s.2.2.1⟩ hnn).mono ?_; rintro r W4 ⟨⟨z, rfl, hz⟩, b4⟩; obtain rfl : z = false := by cases z with | false => rfl | true => exact absurd (hz.1 rfl) cs))
          go_ret
          exact ⟨HNo.out, ab_trans hw2 b4⟩
      · have et : decide (0 ≤ t ∧ t ≤ 999) = false := decide_eq_false ct
        have HNo : Hid (CkP ⟨k, f, t, ns, os, es⟩ (.returned (Err 2))) := ⟨fun h => absurd (HG.out.1 h).2.1 ct, fun _ => rfl⟩
        go_wp2_with (go_at_call 34; refine (isNode_any _ _).mono ?_; rintro r W3 ⟨rfl, rfl⟩)
        go_ret
        exact ⟨HNo.out, hw2⟩
    · have ef : decide (0 ≤ f ∧ f ≤ 999) = false := decide_eq_false cf
      have HNo : Hid (CkP ⟨k, f, t, ns, os, es⟩ (.returned (Err 2))) := ⟨fun h => absurd (HG.out.1 h).1 cf, fun _ => rfl⟩
      go_wp2_with (go_at_call 34; refine (isNode_any _ _).mono ?_; rintro r W3 ⟨rfl, rfl⟩)
      go_ret
      exact ⟨HNo.out, hw2⟩
  · have HNo : Hid (CkP ⟨k, f, t, ns, os, es⟩ (.returned (Err 2))) := ⟨fun h => by
        obtain ⟨a, b, c, d, e, h1, _⟩ := HF'.out.1 (HG.out.1 h).2.2.1
        exact absurd ⟨a, b, c, d, e, h1⟩ hs, fun _ => rfl⟩
    have HS : Hid (shp k = none) := notSome (fun a b c d e h => hs ⟨a, b, c, d, e, h⟩)
    clear hs
    go_wp2_with (go_at_call 33; refine (shape_no _ _ HS.out).mono ?_; rintro r W1 ⟨rfl, b1⟩)
    go_ret
    exact ⟨HNo.out, ab_alloc (ab_trans (ab_alloc (Below.refl _ _) _) b1) _⟩
end Go.Proofs.Ytjbhicjnnghjjaa
namespace Go.Proofs.Ytjbhicjnnghjjaa
open Go.RowKit Go.Shelf
set_option linter.unusedVariables false

theorem isl4n (a b c d : Int) (w : World) : (Instr.buildSlice 22 4 #[(0, .int .i64 a), (1, .int .i64 b), (2, .int .i64 c), (3, .int .i64 d)]).run Try.prog w = .ok (.slice (some ⟨w.heap.size, 0, none⟩) 4 4) (w.alloc (.cells (ints [a, b, c, d]).toArray 3)) := by kernel_rfl
theorem isl5n (a b c d e : Int) (w : World) : (Instr.buildSlice 22 5 #[(0, .int .i64 a), (1, .int .i64 b), (2, .int .i64 c), (3, .int .i64 d), (4, .int .i64 e)]).run Try.prog w = .ok (.slice (some ⟨w.heap.size, 0, none⟩) 5 5) (w.alloc (.cells (ints [a, b, c, d, e]).toArray 3)) := by kernel_rfl
theorem ent_cell {W : World} {b q : Nat} {e : Nat → Int} (h : W.rangeAt b q (EA e).toList) : W.rangeAt b (q + 2) (CA (cE e)).toList := by
  intro i v hv
  have hi : i < 74 := by have := (List.getElem?_eq_some_iff.1 hv).1; simpa [CA] using this
  have e1 : (CA (cE e)).toList[i]? = some (.int (ck i) (cE e i)) := by simp [CA, hi]
  rw [e1] at hv
  cases hv
  have := h (2 + i) _ (AG_at 76 ek e (2 + i) (by omega))
  have e2 : ek (2 + i) = ck i := by
    unfold ek ck
    by_cases h2 : i = 2
    · subst h2; rfl
    · rw [if_neg (by omega), if_neg h2]
  rw [e2] at this
  rw [Nat.add_assoc]
  exact this
theorem blk_range {W : World} {b : Nat} {vs : Array Value} {t : TypeId} (h : Blk W b vs t) : W.rangeAt b 0 vs.toList := by
  intro i v hv
  rw [Nat.zero_add]
  exact h.at (by simpa using hv)
theorem EA_two {W : World} {b q : Nat} {e : Nat → Int} (h : W.rangeAt b q (EA e).toList) : W.cell? ⟨b, q, none⟩ = some (.int .i64 (e 0)) ∧ W.cell? ⟨b, q + 1, none⟩ = some (.int .i64 (e 1)) :=
  ⟨h 0 _ (AG_at 76 ek e 0 (by omega)), h 1 _ (AG_at 76 ek e 1 (by omega))⟩
/-- A block beside an own row. -/
theorem own_other {W : World} {base b n : Nat} {v : Value} {l : List Int} {e : TypeId} {vs : Array Value} {t : TypeId} (h : W.ownsRow base e 1 v n (ints l)) (hB : Blk W b vs t) (hn : t ≠ e) : v.ownBlock ≠ some b := by
  intro hv
  rcases h.2 with ⟨h2, _⟩ | ⟨g, cap, cur, h2, hb, hg, _⟩
  · rw [h2] at hv; cases hv
  · rw [h2] at hv
    have hv' : g = b := by simpa [Value.ownBlock] using hv
    subst hv'
    unfold Blk at hB
    rw [hg] at hB
    injection hB with hB
    injection hB with _ h2 _
    exact hn h2.symm
theorem blk_grown {W W' : World} {b : Nat} {vs : Array Value} {t : TypeId} {r : Option Nat} (hB : Blk W b vs t) (hg : W.grownBy W' r) (hn : r ≠ some b) : Blk W' b vs t :=
  (hg.block b hB.lt (fun h => hn h.symm)).trans hB
section
variable {ops : Array Oper} {rest : List Oper} {o : Oper} {a : Act} {w : World} {Q : Exit → Act → World → Prop}
theorem st_ent (hgd : o.guard = none) {x y : Operand} (ho : o.op = .store 82 x y) {b : Nat} {c d : Nat → Int} {t : TypeId} (hB : Blk w b (EA d) t) (hx : a.eval x = .pointer (some ⟨b, 0, none⟩)) (hy : a.eval y = .agg (EA c))
    (h : ∀ W', Blk W' b (EA c) t → Chg b w W' → wpList Try.prog ops Q rest (a.put o.dst undef) W') : wpList Try.prog ops Q (o :: rest) a w :=
  st_blk hgd ho hB hx hy (info_ent c) (by rw [AG_size, AG_size]) (by rw [Array.all_eq_true']; intro x hx; exact AG_one 76 ek c x (by simpa using hx)) h
theorem ld_cellA (hgd : o.guard = none) {x : Operand} (ho : o.op = .load 80 x) {b q : Nat} {c : Nat → Int} (hr : w.rangeAt b q (CA c).toList) (hx : a.eval x = .pointer (some ⟨b, q, none⟩))
    (h : wpList Try.prog ops Q rest (a.put o.dst (.agg (CA c))) w) : wpList Try.prog ops Q (o :: rest) a w := ld_cell_mid hgd ho hr hx h
end

set_option maxHeartbeats 1000000 in
set_option maxRecDepth 100000 in
theorem numsOf_any (N : Nt) (vn vo ve : Value) (w : World) (h1 : Is w vn N.ns) (h2 : SR 5 k64 w vo N.os) (h3 : SR 76 ek w ve N.es) (hW : WN N) (l1 : N.ns.length ≤ 1000) (l2 : N.os.length ≤ 1000) (l3 : N.es.length ≤ 1000) :
    Calls Try.prog 29 #[ntV N vn vo ve] w fun e w' => ∃ v', e = .returned v' ∧ Io w' w.heap.size v' (numsN N) ∧ Below w.heap.size w w' := by
  obtain ⟨k, f, t, ns, os, es⟩ := N
  have hwE := hW.es
  clear hW
  dsimp only at *
  have HN : Hid (numsN ⟨k, f, t, ns, os, es⟩ = k :: f :: t :: (ns.length : Int) :: (ns ++ ((os.length : Int) :: (os.flatMap opN ++ ((es.length : Int) :: es.flatMap enN))))) := rfl
  have h1' : Hid (Is w vn ns) := h1
  obtain ⟨qn, cn, gn, on, rfl, _, hcn, -, -, -⟩ := h1
  obtain ⟨qo, co, go, oo, rfl, hlo, hco, hpo, hgo, hro⟩ := h2
  obtain ⟨qe, ce, ge, oe, rfl, hle, hce, hpe, hge, hre⟩ := h3
  generalize hnl : ns.length = n at *
  generalize hol : os.length = m at *
  generalize hel : es.length = p at *
  go_enter Try.func29, Try.ntmps29
  go_upto_region 1 with fail
  have hB := Blk.new w #[.int .i64 k, .int .i64 f, .int .i64 t, .slice qn n cn, .slice qo m co, .slice qe p ce] 26
  have hA := ab_alloc (Below.refl w.heap.size w) (.cells #[.int .i64 k, .int .i64 f, .int .i64 t, .slice qn n cn, .slice qo m co, .slice qe p ce] 26)
  generalize w.alloc (.cells #[.int .i64 k, .int .i64 f, .int .i64 t, .slice qn n cn, .slice qo m co, .slice qe p ce] 26) = A at *
  have d0 : A.cell? ⟨w.heap.size, 0, none⟩ = some (.int .i64 k) := hB.at rfl
  have d1 : A.cell? ⟨w.heap.size, 1, none⟩ = some (.int .i64 f) := hB.at rfl
  have d2 : A.cell? ⟨w.heap.size, 2, none⟩ = some (.int .i64 t) := hB.at rfl
  have d3 : A.cell? ⟨w.heap.size, 3, none⟩ = some (.slice qn n cn) := hB.at rfl
  go_upto_region 2 with (refine bs_own rfl rfl [k, f, t, (n : Int)] (by simp only [List.map_toArray, List.map_cons, List.map_nil]; rfl) (isl4n _ _ _ _ _) rfl (by decide) ?_; intro V1 hN1 b1 z1)
  have D3 : ∀ W, Below A.heap.size A W → W.cell? ⟨w.heap.size, 3, none⟩ = some (.slice qn n cn) := fun W hb => (hB.keep hb).at rfl
  have D4 : ∀ W, Below A.heap.size A W → W.cell? ⟨w.heap.size, 4, none⟩ = some (.slice qo m co) := fun W hb => (hB.keep hb).at rfl
  have D5 : ∀ W, Below A.heap.size A W → W.cell? ⟨w.heap.size, 5, none⟩ = some (.slice qe p ce) := fun W hb => (hB.keep hb).at rfl
  have d3' := D3 V1 b1
  go_upto_region 3 with (at_builtin; refine app_i A rfl rfl rfl hN1 rfl ((h1'.out.keep hA).keep b1) hnl (by omega) b1 ?_; intro v2 V2 hown2 hnil2 b2 hgr2 hat2)
  have O2 : Io V2 A.heap.size v2 ([k, f, t, (n : Int)] ++ ns) := io_of hown2
  have HX0 : Hid (([k, f, t, (n : Int)] ++ ns).length = 4 + n) := by show _ = _; rw [List.length_append, hnl]; rfl
  have HN2 : Hid (numsN ⟨k, f, t, ns, os, es⟩ = ([k, f, t, (n : Int)] ++ ns) ++ [(m : Int)] ++ os.flatMap opN ++ [(p : Int)] ++ es.flatMap enN) := by show _ = _; rw [HN.out]; simp
  clear hnil2 hgr2 hat2 hown2 hN1 z1 d0 d1 d2 d3 d3' HN h1'
  generalize [k, f, t, (n : Int)] ++ ns = X0 at *
  have d4 := D4 V2 b2
  go_upto_region 4 with (first
    | (refine bs_own rfl rfl [(m : Int)] (by simp only [List.map_toArray, List.map_cons, List.map_nil]; rfl) (isl1 _ _) rfl (by decide) ?_; intro V3 hN3 b3 z3)
    | (at_builtin; refine app_i A rfl rfl rfl (O2.keep b3) rfl (own_is hN3) rfl (by have := HX0.out; show _ + 1 ≤ _; omega) (ab_trans b2 b3) ?_; intro v4 V4 hown4 hnil4 b4 hgr4 hat4))
  have O4 : Io V4 A.heap.size v4 (X0 ++ [(m : Int)]) := io_of hown4
  have HX1 : Hid ((X0 ++ [(m : Int)]).length = 5 + n) := by show _ = _; rw [List.length_append, HX0.out]; simp; omega
  clear hnil4 hgr4 hat4 hown4 hN3 z3 b3 O2 b2 HX0 d4
  generalize X0 ++ [(m : Int)] = X1 at *
  have d4 := D4 V4 b4
  go_wp2_with fail
  clear d4
  go_loopw [3, 31] (fun x i wr => ∃ j : Nat, j ≤ m ∧ i = .int .i64 (j : Int) ∧ Io wr A.heap.size x (X1 ++ (os.take j).flatMap opN) ∧ Below A.heap.size A wr) (fun _ i _ => m - (intOf i).toNat)
  case atStart => exact ⟨0, by omega, rfl, by simpa using O4, b4⟩
  case round =>
    clear O4 b4 b1
    obtain ⟨j, hj, rfl, O, hb⟩ := hrel
    by_cases cj : j = m
    · subst cj
      have e1 : os.take j = os := List.take_of_length_le (by omega)
      rw [e1] at O
      have HX2 : Hid ((X1 ++ os.flatMap opN).length = 5 + n + 5 * j) := by show _ = _; rw [List.length_append, HX1.out, ops_bytes, hol]
      clear e1 hro hpo hgo D3 D4
      generalize X1 ++ os.flatMap opN = X2 at *
      have d5 := D5 wr hb
      go_upto_region 10 with (first
        | (refine bs_own rfl rfl [(p : Int)] (by simp only [List.map_toArray, List.map_cons, List.map_nil]; rfl) (isl1 _ _) rfl (by decide) ?_; intro V5 hN5 b5 z5)
        | (at_builtin; refine app_i A rfl rfl rfl (O.keep b5) rfl (own_is hN5) rfl (by have := HX2.out; show _ + 1 ≤ _; omega) (ab_trans hb b5) ?_; intro v6 V6 hown6 hnil6 b6 hgr6 hat6))
      have O6 : Io V6 A.heap.size v6 (X2 ++ [(p : Int)]) := io_of hown6
      have HX3 : Hid ((X2 ++ [(p : Int)]).length ≤ 7000) := by show _ ≤ _; rw [List.length_append, HX2.out]; simp; omega
      clear hnil6 hgr6 hat6 hown6 hN5 z5 b5 O HX2 d5
      generalize X2 ++ [(p : Int)] = X3 at *
      have d5 := D5 V6 b6
      go_wp2_with fail
      clear d5 D5
      go_loopw [3, 58] (fun x i wr => ∃ j : Nat, j ≤ p ∧ i = .int .i64 (j : Int) ∧ Io wr A.heap.size x (X3 ++ (es.take j).flatMap enN) ∧ Below A.heap.size A wr) (fun _ i _ => p - (intOf i).toNat)
      case atStart => exact ⟨0, by omega, rfl, by simpa using O6, b6⟩
      case round =>
        clear O6 b6 hb
        obtain ⟨j2, hj2, rfl, O, hb⟩ := hrel
        by_cases cj2 : j2 = p
        · subst cj2
          have e2 : es.take j2 = es := List.take_of_length_le (by omega)
          rw [e2, ← HN2.out] at O
          go_wp2_with fail
          go_ret
          exact ⟨_, rfl, O.less hA.size, ab_trans hA hb⟩
        · obtain ⟨x, hx⟩ : ∃ x, es[j2]? = some x := ⟨es[j2], List.getElem?_eq_getElem (by omega)⟩
          obtain rfl := hpe (by omega)
          have hbw := ab_trans hA hb
          have hr : wr.rangeAt ge (oe + j2 * 76) (EA x).toList := fun i v hv => (hbw.cell (p := ⟨ge, _, none⟩) (hge (by omega))).trans (hre j2 x hx i v hv)
          have hxW := hwE x (List.mem_of_getElem? hx)
          have hji : (j2 : Int) < (p : Int) := by omega
          have hjm : j2 < p := by omega
          have HT : Hid ((es.take (j2 + 1)).flatMap enN = (es.take j2).flatMap enN ++ [x 0, x 1] ++ numsF (cE x)) := by
            show _ = _
            rw [List.take_add_one, hx, Option.toList_some, List.flatMap_append]
            simp [enN]
          have HL : Hid ((X3 ++ (es.take j2).flatMap enN).length ≤ 150000) := by
            have h1 := ents_count (es.take j2)
            rw [List.length_take] at h1
            have h2 := HX3.out
            show _ ≤ _
            rw [List.length_append]
            omega
          have hfl := (numsF_len (cE x)).2
          clear hre hpe hge hx hwE hel hbw
          go_upto_region 13 with (first
            | (refine ld_ent rfl rfl hr rfl ?_)
            | (refine al_ent rfl rfl ?_; intro W1 e1 hE1 hg1; clear e1)
            | (refine st_ent rfl rfl hE1 rfl rfl ?_; intro W2 hE2 C2))
          have b2 : Below wr.heap.size wr W2 := ab_chg hg1 C2 (Nat.le_refl _)
          have O2 := O.keep b2
          have hb2 := ab_trans hb b2
          obtain ⟨x0, x1⟩ := EA_two (blk_range hE2)
          clear O hE1 hg1 C2 b2 hr
          generalize wr.heap.size = Bx at *
          go_upto_region 14 with (first
            | (refine bs_own rfl rfl [x 0, x 1] (by simp only [List.map_toArray, List.map_cons, List.map_nil]; rfl) (isl2 _ _ _) rfl (by decide) ?_; intro V3 hN3 b3 z3)
            | (at_builtin; refine app_i A rfl rfl rfl (O2.keep b3) rfl (own_is hN3) rfl (by have := HL.out; show _ + 2 ≤ _; omega) (ab_trans hb2 b3) ?_; intro v4 V4 hown4 hnil4 b4 hgr4 hat4))
          have hE4 : Blk V4 Bx (EA x) 82 := blk_grown (hE2.keep b3) hgr4 (own_other (O2.keep b3) (hE2.keep b3) (by decide))
          have hC4 := ent_cell (blk_range hE4)
          have O4 := io_of hown4
          clear hnil4 hgr4 hat4 hown4 hN3 z3 b3 O2 hb2 x0 x1 hE2 hE4
          have HL4 : Hid ((X3 ++ (es.take j2).flatMap enN ++ [x 0, x 1]).length ≤ 150002) := by have := HL.out; show _ ≤ _; rw [List.length_append]; simp only [List.length_cons, List.length_nil]; omega
          have HT4 : Hid (X3 ++ (es.take (j2 + 1)).flatMap enN = (X3 ++ (es.take j2).flatMap enN ++ [x 0, x 1]) ++ numsF (cE x)) := by show _ = _; rw [HT.out]; simp
          generalize X3 ++ (es.take j2).flatMap enN ++ [x 0, x 1] = Y at *
          have hbx : 0 + 2 = 2 := rfl
          rw [hbx] at hC4
          go_wp2_with (first
            | (refine ld_cellA rfl rfl hC4 rfl ?_)
            | (go_at_call 52; refine (nums_any _ _ hxW.2.2).mono ?_; rintro r V5 ⟨v5, rfl, hN5, hv5, b5⟩)
            | (at_builtin; refine app_i A rfl rfl rfl (O4.keep b5) rfl (own_is hN5) rfl (by have := HL4.out; omega) (ab_trans b4 b5) ?_; intro v6 V6 hown6 hnil6 b6 hgr6 hat6))
          refine ⟨⟨j2 + 1, by omega, rfl, ?_, b6⟩, by simp only [intOf]; omega⟩
          rw [HT4.out]
          exact io_of hown6
    · obtain ⟨x, hx⟩ : ∃ x, os[j]? = some x := ⟨os[j], List.getElem?_eq_getElem (by omega)⟩
      obtain rfl := hpo (by omega)
      have hbw := ab_trans hA hb
      have hr : wr.rangeAt go (oo + j * 5) (OA x).toList := fun i v hv => (hbw.cell (p := ⟨go, _, none⟩) (hgo (by omega))).trans (hro j x hx i v hv)
      obtain ⟨x0, x1, x2, x3, x4⟩ := cells_op hr
      have hji : (j : Int) < (m : Int) := by omega
      have hjm : j < m := by omega
      have HT : Hid (X1 ++ (os.take (j + 1)).flatMap opN = (X1 ++ (os.take j).flatMap opN) ++ [x 0, x 1, x 2, x 3, x 4]) := by
        show _ = _
        rw [List.take_add_one, hx, Option.toList_some, List.flatMap_append]
        simp [opN]
      have HL : Hid ((X1 ++ (os.take j).flatMap opN).length ≤ 7000) := by
        have h2 := HX1.out
        show _ ≤ _
        rw [List.length_append, ops_bytes, List.length_take]
        omega
      clear hr hro hpo hgo hx hol hbw hwE hre hpe hge hel D3 D4 D5 HN2
      generalize X1 ++ (os.take j).flatMap opN = Y at *
      go_wp2_with (first
        | (refine bs_own rfl rfl [x 0, x 1, x 2, x 3, x 4] (by simp only [List.map_toArray, List.map_cons, List.map_nil]; rfl) (isl5n _ _ _ _ _ _) rfl (by decide) ?_; intro V3 hN3 b3 z3)
        | (at_builtin; refine app_i A rfl rfl rfl (O.keep (ab_trans (ab_alloc (Below.refl _ _) _) b3)) rfl (own_is hN3) rfl (by have := HL.out; show _ + 5 ≤ _; omega) (ab_trans (ab_alloc hb _) b3) ?_; intro v4 V4 hown4 hnil4 b4 hgr4 hat4))
      refine ⟨⟨j + 1, by omega, rfl, ?_, b4⟩, by simp only [intOf]; omega⟩
      rw [HT.out]
      exact io_of hown4
end Go.Proofs.Ytjbhicjnnghjjaa
namespace Go.Proofs.Ytjbhicjnnghjjaa
open Go.RowKit Go.Shelf
set_option linter.unusedVariables false

theorem encode_no (N : Nt) (vn vo ve : Value) (w : World) (h1 : Is w vn N.ns) (h2 : SR 5 k64 w vo N.os) (h3 : SR 76 ek w ve N.es) (hno : ¬ GoodN N) :
    Calls Try.prog 12 #[ntV N vn vo ve] w fun e w' => e = .returned (.tuple #[.slice none 0 0, Err 2]) ∧ Below w.heap.size w w' := by
  have hA := fun o => ab_alloc (Below.refl w.heap.size w) o
  go_enter Try.func12, Try.ntmps12
  go_wp2_with (go_at_call 15; refine (check_any N vn vo ve _ (h1.keep (hA _)) (h2.keep (hA _)) (h3.keep (hA _))).mono ?_; rintro e W2 ⟨hck, b2⟩; obtain rfl := hck.2 hno; clear hck)
  go_ret2
  exact ⟨rfl, ab_trans (hA _) b2⟩

set_option maxHeartbeats 1000000 in
set_option maxRecDepth 100000 in
theorem encode_ok (N : Nt) (vn vo ve : Value) (w : World) (h1 : Is w vn N.ns) (h2 : SR 5 k64 w vo N.os) (h3 : SR 76 ek w ve N.es) (hW : WN N) (hg : GoodN N) :
    Calls Try.prog 12 #[ntV N vn vo ve] w fun e w' => ∃ v', e = .returned (.tuple #[v', .nilIface]) ∧ Ow w' w.heap.size v' (bysN N) ∧ Below w.heap.size w w' := by
  have hfit := fitK_le hg.fit
  have HB : Hid (bysN N = frm [numsB (numsN N)].flatten) := by show _ = _; simp [bysN]
  have HC := good_count hg
  have HL := good_fits hg
  have HI := numsN_fit hW (by omega) (by omega) (by omega)
  go_enter Try.func12, Try.ntmps12
  go_upto_region 1 with fail
  have hB := Blk.new w #[.int .i64 N.k, .int .i64 N.f, .int .i64 N.t, vn, vo, ve] 26
  have hA := ab_alloc (Below.refl w.heap.size w) (.cells #[.int .i64 N.k, .int .i64 N.f, .int .i64 N.t, vn, vo, ve] 26)
  generalize w.alloc (.cells #[.int .i64 N.k, .int .i64 N.f, .int .i64 N.t, vn, vo, ve] 26) = A at *
  have k1 := h1.keep hA
  have k2 := h2.keep hA
  have k3 := h3.keep hA
  have D0 : ∀ W, Below A.heap.size A W → W.cell? ⟨w.heap.size, 0, none⟩ = some (.int .i64 N.k) := fun W hb => (hB.keep hb).at rfl
  have D1 : ∀ W, Below A.heap.size A W → W.cell? ⟨w.heap.size, 1, none⟩ = some (.int .i64 N.f) := fun W hb => (hB.keep hb).at rfl
  have D2 : ∀ W, Below A.heap.size A W → W.cell? ⟨w.heap.size, 2, none⟩ = some (.int .i64 N.t) := fun W hb => (hB.keep hb).at rfl
  have D3 : ∀ W, Below A.heap.size A W → W.cell? ⟨w.heap.size, 3, none⟩ = some vn := fun W hb => (hB.keep hb).at rfl
  have D4 : ∀ W, Below A.heap.size A W → W.cell? ⟨w.heap.size, 4, none⟩ = some vo := fun W hb => (hB.keep hb).at rfl
  have D5 : ∀ W, Below A.heap.size A W → W.cell? ⟨w.heap.size, 5, none⟩ = some ve := fun W hb => (hB.keep hb).at rfl
  have d0 := D0 A (Below.refl _ _)
  have d1 := D1 A (Below.refl _ _)
  have d2 := D2 A (Below.refl _ _)
  have d3 := D3 A (Below.refl _ _)
  have d4 := D4 A (Below.refl _ _)
  have d5 := D5 A (Below.refl _ _)
  go_upto_region 4 with (go_at_call 15; refine (check_any N vn vo ve _ k1 k2 k3).mono ?_; rintro e W2 ⟨hck, b2⟩; obtain rfl := hck.1 hg; clear hck)
  clear d0 d1 d2 d3 d4 d5
  have d0 := D0 W2 b2
  have d1 := D1 W2 b2
  have d2 := D2 W2 b2
  have d3 := D3 W2 b2
  have d4 := D4 W2 b2
  have d5 := D5 W2 b2
  go_wp2_with (first
    | (go_at_call 29; refine (numsOf_any N vn vo ve _ (k1.keep b2) (k2.keep b2) (k3.keep b2) hW (by omega) (by omega) (by omega)).mono ?_; rintro e W3 ⟨v3, rfl, O3, b3⟩)
    | (go_at_call 28; refine (put_any _ [] _ (numsN N) _ (sl_nil _) (by simp) O3.is HC HI).mono ?_; rintro e W4 ⟨v4, rfl, O4, b4⟩; have s4 := O4.sl; rw [List.nil_append] at s4; obtain ⟨q4, c4, e4, -⟩ := id s4; subst e4)
    | (refine bs_ls rfl rfl [_] [numsB (numsN N)] (by simp only [List.map_toArray, List.map_cons, List.map_nil]; rfl) (bsl1 _ _ _ _) rfl (by decide) rfl (each1 s4) ?_; intro W5 hls5 b5 hbk5)
    | (go_at_call 27; refine (wrap_ok _ _ _ _ hls5 (by intro l hl; simp at hl; subst hl; exact numsB_byt _) (by simpa using HL)).mono ?_; rintro e W6 ⟨v6, rfl, O6, hn6, b6⟩))
  go_ret2
  have b7 := ab_trans (ab_trans (ab_trans b2 b3) (ab_trans b4 b5)) b6
  have z6 : w.heap.size ≤ W5.heap.size := Nat.le_trans hA.size (ab_trans (ab_trans b2 b3) (ab_trans b4 b5)).size
  exact ⟨_, rfl, by rw [HB.out]; exact O6.less z6, ab_trans hA b7⟩
end Go.Proofs.Ytjbhicjnnghjjaa
namespace Go.Proofs.Ytjbhicjnnghjjaa
open Go.RowKit Go.Shelf
set_option linter.unusedVariables false

theorem irow_take2 {W : World} {g off : Nat} {l : List Int} (h : IRow W g off l) (k : Nat) : IRow W g off (l.take k) := by
  intro j x hx
  have hj := (List.getElem?_eq_some_iff.1 hx).1
  rw [List.length_take] at hj
  rw [List.getElem?_take_of_lt (by omega)] at hx
  exact h j x hx
theorem irow_drop2 {W : World} {g off : Nat} {l : List Int} (h : IRow W g off l) (k : Nat) : IRow W g (off + k) (l.drop k) := by
  intro j x hx
  rw [List.getElem?_drop] at hx
  have := h (k + j) x hx
  rwa [← Nat.add_assoc] at this
theorem Is.len {W : World} {q : Option Addr} {n cap : Nat} {l : List Int} (h : Is W (.slice q n cap) l) : l.length = n ∧ n ≤ cap ∧ cap ≤ 9223372036854775807 := by
  obtain ⟨q', cap', g, off, e, h1, h2, _⟩ := h
  cases e
  exact ⟨rfl, h1, h2⟩
theorem Is.nil (W : World) : Is W (.slice none 0 0) [] := ⟨none, 0, 0, 0, rfl, Nat.le_refl _, by omega, fun h => absurd h (by simp), fun h => absurd h (by simp), fun j x h => by simp at h⟩
theorem Is.form {W : World} {v : Value} {l : List Int} (h : Is W v l) : ∃ q cap, v = .slice q l.length cap := by
  obtain ⟨q, cap, g, off, e, _⟩ := h
  exact ⟨q, cap, e⟩
/-- A part of a slice of numbers. -/
theorem Is.sub {W : World} {q : Option Addr} {n cap : Nat} {l : List Int} (h : Is W (.slice q n cap) l) {i j sc : Nat} {v : Value} (hij : i ≤ j) (hjn : j ≤ n) (hsc : sc ≤ cap) (hjc : j ≤ sc) (hv : v = sliced q i j sc 1) : Is W v ((l.drop i).take (j - i)) := by
  obtain ⟨q', cap', g, off, e, h1, h2, h3, h4, h5⟩ := h
  cases e
  have hl : ((l.drop i).take (j - i)).length = j - i := by rw [List.length_take, List.length_drop]; omega
  subst hv
  unfold sliced
  by_cases c : sc = i
  · rw [if_pos c]
    refine ⟨q, sc - i, g, off, by rw [hl], by omega, by omega, fun h0 => ?_, fun h0 => ?_, fun j' x hx => ?_⟩
    · rw [hl] at h0; omega
    · rw [hl] at h0; omega
    · have := (List.getElem?_eq_some_iff.1 hx).1; rw [hl] at this; omega
  · rw [if_neg c]
    refine ⟨_, sc - i, g, off + i, by rw [hl], by omega, by omega, fun h0 => ?_, fun h0 => ?_, irow_take2 (irow_drop2 h5 i) _⟩
    · rw [hl] at h0
      rw [h3 (by omega), Option.map_some, Addr.add_mid, Nat.mul_one]
    · rw [hl] at h0
      exact h4 (by omega)
/-- One of its numbers. -/
theorem Is.at {W : World} {q : Option Addr} {n cap : Nat} {l : List Int} (h : Is W (.slice q n cap) l) (hn : 0 < n) : ∃ g off, q = some ⟨g, off, none⟩ ∧ g < W.heap.size ∧ IRow W g off l := by
  obtain ⟨q', cap', g, off, e, h1, h2, h3, h4, h5⟩ := h
  cases e
  exact ⟨g, off, h3 hn, h4 hn, h5⟩
theorem sizeN (w : World) : (sizeOf (Try.prog.elem 22)).run Try.prog w = .ok 1 w := by kernel_rfl
theorem eltN : Try.prog.underlying 22 = some (.slice (Try.prog.elem 22)) := by kernel_rfl
section
variable {ops : Array Oper} {rest : List Oper} {o : Oper} {a : Act} {w : World} {Q : Exit → Act → World → Prop}
theorem sli_l_run {ρ : Operand → Value} {x y : Operand} (ho : o.op = .slice 22 x (some y) none none) {q : Option Addr} {n cap i : Nat} {I : Int} {ki : IntKind}
    (hx : ρ x = .slice q n cap) (hy : ρ y = .int ki I) (hI : I = (i : Int)) (h1 : i ≤ n) (h2 : n ≤ cap) : (execOp ρ o).run Try.prog w = .ok (.value (sliced q i n cap 1)) w := by
  subst hI
  unfold execOp
  simp only [ho, hx, hy, Option.map_some, Option.map_none, Sem.run_bind, run_sliceAt_slice w 22 _ _ _ _ eltN, run_slice_l w 22 q n cap eltN _ (i : Int) (by omega) (by omega), sizeN, Result.andThen_ok, Sem.run_pure, Int.toNat_natCast]
theorem sli_h_run {ρ : Operand → Value} {x z : Operand} (ho : o.op = .slice 22 x none (some z) none) {q : Option Addr} {n cap j : Nat} {J : Int} {kj : IntKind}
    (hx : ρ x = .slice q n cap) (hz : ρ z = .int kj J) (hJ : J = (j : Int)) (h2 : j ≤ cap) : (execOp ρ o).run Try.prog w = .ok (.value (sliced q 0 j cap 1)) w := by
  subst hJ
  unfold execOp
  simp only [ho, hx, hz, Option.map_some, Option.map_none, Sem.run_bind, run_sliceAt_slice w 22 _ _ _ _ eltN, run_slice_h w 22 q n cap eltN _ (j : Int) (by omega) (by omega), sizeN, Result.andThen_ok, Sem.run_pure, Int.toNat_natCast]
/-- 'l[i:]' of numbers that an earlier world holds. -/
theorem sli_l (V : World) (hw : Region.wanted o (yielded ops a.tmps) = true) {x y : Operand} (ho : o.op = .slice 22 x (some y) none none) {q : Option Addr} {n cap : Nat} {I : Int} {ki : IntKind} {l : List Int} (i : Nat)
    (hx : a.eval x = .slice q n cap) (hy : a.eval y = .int ki I) (hI : I = (i : Int)) (h1 : i ≤ n) (hsl : Is V (.slice q n cap) l)
    (hK : ∀ q', Is V (.slice q' (n - i) (cap - i)) (l.drop i) → wpList Try.prog ops Q rest (a.put o.dst (.slice q' (n - i) (cap - i))) w) : wpList Try.prog ops Q (o :: rest) a w := by
  have hc := hsl.len
  obtain ⟨q', e⟩ := sliced_form q i n cap
  have hr := sli_l_run (w := w) ho hx hy hI h1 hc.2.1
  rw [e] at hr
  refine valS hw _ hr (hK q' ?_)
  have := hsl.sub h1 (Nat.le_refl _) (Nat.le_refl _) hc.2.1 e.symm
  rwa [List.take_of_length_le (by rw [List.length_drop]; omega)] at this
theorem sli_h (V : World) (hw : Region.wanted o (yielded ops a.tmps) = true) {x z : Operand} (ho : o.op = .slice 22 x none (some z) none) {q : Option Addr} {n cap : Nat} {J : Int} {kj : IntKind} {l : List Int} (j : Nat)
    (hx : a.eval x = .slice q n cap) (hz : a.eval z = .int kj J) (hJ : J = (j : Int)) (h1 : j ≤ n) (hsl : Is V (.slice q n cap) l)
    (hK : ∀ q', Is V (.slice q' j cap) (l.take j) → wpList Try.prog ops Q rest (a.put o.dst (.slice q' j cap)) w) : wpList Try.prog ops Q (o :: rest) a w := by
  have hc := hsl.len
  obtain ⟨q', e⟩ := sliced_form q 0 j cap
  have hr := sli_h_run (w := w) ho hx hz hJ (by omega)
  rw [e] at hr
  refine valS hw _ hr (hK q' ?_)
  have := hsl.sub (Nat.zero_le _) h1 (Nat.le_refl _) (by omega) e.symm
  simpa using this
end

theorem info_place (a b : Int) : (Try.prog.info? 53).map (·.size) = some (#[Value.int .i64 a, .int .i64 b]).size := by kernel_rfl
theorem placeOf_any (v : Value) (l : List Int) (w : World) (hv : Is w v l) (h2 : 2 ≤ l.length) :
    Calls Try.prog 46 #[v] w fun e w' => e = .returned (.agg #[.int .i64 (l.getD 0 0), .int .i64 (l.getD 1 0)]) ∧ Below w.heap.size w w' := by
  obtain ⟨q, cap, e⟩ := hv.form
  subst e
  obtain ⟨g, off, rfl, hg, hr⟩ := hv.at (by omega)
  have hc := hv.len
  have hA := ab_alloc (Below.refl w.heap.size w) (.cells #[.int .i64 0, .int .i64 0] 53)
  have c0 : (w.alloc (.cells #[.int .i64 0, .int .i64 0] 53)).cell? ⟨g, off, none⟩ = some (.int .i64 (l.getD 0 0)) := (hA.cell (p := ⟨g, off, none⟩) hg).trans (hr 0 _ (by rw [List.getD_eq_getElem?_getD, List.getElem?_eq_getElem (by omega)]; rfl))
  have c1 : (w.alloc (.cells #[.int .i64 0, .int .i64 0] 53)).cell? ⟨g, off + 1, none⟩ = some (.int .i64 (l.getD 1 0)) := (hA.cell (p := ⟨g, off + 1, none⟩) hg).trans (hr 1 _ (by rw [List.getD_eq_getElem?_getD, List.getElem?_eq_getElem (by omega)]; rfl))
  have hB := Blk.new w #[.int .i64 0, .int .i64 0] 53
  generalize l.getD 0 0 = a0 at *
  generalize l.getD 1 0 = a1 at *
  generalize l.length = n at *
  clear hr hv
  go_enter Try.func46, Try.ntmps46
  go_upto_region 1 with fail
  go_region
  go_wp2_with fail
  exact bodyPost_ret (results_cell_row rfl _ _ _ 53 _ (0, 0) _ rfl (Blk.new w #[.int .i64 a0, .int .i64 a1] 53).drew Try.underlying53 rfl (info_place _ _)) rfl ⟨rfl, ab_drew (ab_alloc (Below.refl _ _) _)⟩

/-- The numbers of so many things. -/
theorem counted_short (w : World) (s : Int) (cap : Nat) (q : Option Addr) :
    Calls Try.prog 59 #[.slice q 0 cap, .int .i64 s] w fun e w' => e = .returned (.tuple #[.slice none 0 0, .slice none 0 0, .bool false]) ∧ Below w.heap.size w w' := by
  go_enter Try.func59, Try.ntmps59
  go_wp2_with fail
  go_ret3
  exact ⟨rfl, Below.refl _ _⟩

def CtP (W : World) (c : Int) (s : Nat) (r : List Int) (e : Ending) : Prop :=
  ((c < 0 ∨ ((r.length / s : Nat) : Int) < c) → e = .returned (.tuple #[.slice none 0 0, .slice none 0 0, .bool false])) ∧
  (∀ m : Nat, c = (m : Int) → m ≤ r.length / s → ∃ v1 v2, e = .returned (.tuple #[v1, v2, .bool true]) ∧ Is W v1 (r.take (m * s)) ∧ Is W v2 (r.drop (m * s)))

set_option maxHeartbeats 1000000 in
set_option maxRecDepth 100000 in
theorem counted_any (V0 : World) (v : Value) (c : Int) (r : List Int) (s : Nat) (w : World) (hb0 : Below V0.heap.size V0 w) (hv : Is V0 v (c :: r)) (hs : s = 1 ∨ s = 5) (hc : Fit c) (hl : r.length ≤ 1000000) :
    Calls Try.prog 59 #[v, .int .i64 (s : Int)] w fun e w' => CtP V0 c s r e ∧ Below w.heap.size w w' := by
  obtain ⟨q, cap, e⟩ := hv.form
  subst e
  have hlen := hv.len
  obtain ⟨g, off, rfl, hg0, hr⟩ := hv.at (by simp)
  have hg : g < w.heap.size := Nat.lt_of_lt_of_le hg0 hb0.size
  have c0 := (hb0.cell (p := ⟨g, off + 0, none⟩) hg0).trans (hr 0 c rfl)
  rw [Nat.add_zero] at c0
  obtain ⟨q1, e1⟩ := sliced_form (some ⟨g, off, none⟩) 1 (r.length + 1) cap
  have H1 : Hid (Is V0 (.slice q1 (r.length + 1 - 1) (cap - 1)) r) := by
    have := hv.sub (i := 1) (j := r.length + 1) (by omega) (by simp) (Nat.le_refl _) (by simpa using hlen.2.1) e1.symm
    rw [List.drop_succ_cons, List.drop_zero, List.take_of_length_le (by omega)] at this
    exact this
  have HE1 : Hid (sliced (some ⟨g, off, none⟩) 1 (r.length + 1) cap 1 = .slice q1 (r.length + 1 - 1) (cap - 1)) := e1
  have HC : Hid (r.length + 1 ≤ cap) := by have := hlen.2.1; show _ ≤ _; simpa using this
  rw [Nat.add_sub_cancel] at H1 HE1
  clear hr hv e1 hlen hb0 hg0
  rw [show (c :: r).length = r.length + 1 from rfl]
  generalize hrl : r.length = n at *
  have hn1 : 0 < n + 1 := by omega
  go_enter Try.func59, Try.ntmps59
  go_upto_region 3 with fail
  have hc' := cls_cell c0
  refine wp_region_below (by kernel_rfl) (by kernel_rfl) ?_
  have HZ := cls_some w
  go_big_quiet_step (fail)
  go_big_quiet_step (fail)
  go_big_quiet_step (fail)
  go_big_quiet_step (fail)
  refine quiet_val rfl _ (fun w' _ => (sli_l_run rfl rfl rfl (i := 1) rfl (by omega) HC.out).trans (by rw [HE1.out])) ?_
  simp only [Act.put, List.setIfInBounds_toArray, List.set_cons_succ, List.set_cons_zero]
  go_big_quiet_step (fail)
  go_big_quiet_step (fail)
  refine wpQuiet_nil ?_
  rintro w7 ⟨⟨W7, b7⟩, e7⟩
  dsimp only at e7
  subst e7
  clear HZ hc'
  have hsp : 0 < s := by omega
  have hs0 : ((s : Int) == 0) = false := by simp; omega
  have hq : (n : Int).tdiv (s : Int) = ((n / s : Nat) : Int) := by rw [Int.tdiv_eq_ediv_of_nonneg (by omega)]; rfl
  have hnq : n / s ≤ n := Nat.div_le_self _ _
  have HQ : Hid (n / s * s ≤ n) := Nat.div_mul_le_self _ _
  generalize hQd : n / s = Qd at *
  unfold Fit at hc
  by_cases h0 : c < 0
  · have HE : Hid (CtP V0 c s r (.returned (.tuple #[.slice none 0 0, .slice none 0 0, .bool false]))) := ⟨fun _ => rfl, fun m hm _ => by omega⟩
    go_wp2_with fail
    go_ret3
    exact ⟨HE.out, b7⟩
  · by_cases h1 : (Qd : Int) < c
    · have HE : Hid (CtP V0 c s r (.returned (.tuple #[.slice none 0 0, .slice none 0 0, .bool false]))) := ⟨fun _ => rfl, fun m hm h2 => by rw [hrl, hQd] at h2; omega⟩
      go_wp2_with fail
      go_ret3
      exact ⟨HE.out, b7⟩
    · obtain ⟨m, rfl⟩ : ∃ m : Nat, c = (m : Int) := ⟨c.toNat, by omega⟩
      go_upto_region 6 with fail
      have hcap := HC.out
      have hms : (m : Int) * (s : Int) = ((m * s : Nat) : Int) := (Int.natCast_mul m s).symm
      have hle : m * s ≤ n := Nat.le_trans (Nat.mul_le_mul_right s (by omega)) HQ.out
      obtain ⟨q2, e2⟩ := sliced_form q1 0 (m * s) (cap - 1)
      obtain ⟨q3, e3⟩ := sliced_form q1 (m * s) n (cap - 1)
      have i2 : Is V0 (.slice q2 (m * s) (cap - 1)) (r.take (m * s)) := by
        have := H1.out.sub (Nat.zero_le _) hle (Nat.le_refl _) (by omega) e2.symm
        simpa using this
      have i3 : Is V0 (.slice q3 (n - m * s) (cap - 1 - m * s)) (r.drop (m * s)) := by
        have := H1.out.sub hle (Nat.le_refl _) (Nat.le_refl _) (by omega) e3.symm
        rwa [List.take_of_length_le (by rw [List.length_drop]; omega)] at this
      have HE : Hid (CtP V0 (m : Int) s r (.returned (.tuple #[.slice q2 (m * s) (cap - 1), .slice q3 (n - m * s) (cap - 1 - m * s), .bool true]))) :=
        ⟨fun h => by rw [hrl, hQd] at h; omega, fun m' hm _ => by obtain rfl : m = m' := by omega
                                                                  exact ⟨_, _, rfl, i2, i3⟩⟩
      have E2 : Hid (sliced q1 0 (m * s) (cap - 1) 1 = .slice q2 (m * s) (cap - 1)) := e2
      have E3 : Hid (sliced q1 (m * s) n (cap - 1) 1 = .slice q3 (n - m * s) (cap - 1 - m * s)) := e3
      clear i2 i3 e2 e3 HQ hq H1 HE1 c0 hs0
      generalize m * s = MS at *
      have hc1 : n ≤ cap - 1 := by omega
      generalize cap - 1 = cap1 at *
      refine wp_region_below (by kernel_rfl) (by kernel_rfl) ?_
      have HZ := cls_some w7
      go_big_quiet_step (fail)
      go_big_quiet_step (fail)
      go_big_quiet_step (fail)
      go_big_quiet_step (fail)
      refine quiet_val rfl _ (fun w' _ => (sli_h_run rfl rfl rfl (j := MS) rfl (by omega)).trans (by rw [E2.out])) ?_
      simp only [Act.put, List.setIfInBounds_toArray, List.set_cons_succ, List.set_cons_zero]
      go_big_quiet_step (fail)
      go_big_quiet_step (fail)
      go_big_quiet_step (fail)
      go_big_quiet_step (fail)
      refine quiet_val rfl _ (fun w' _ => (sli_l_run rfl rfl rfl (i := MS) rfl (by omega) (by omega)).trans (by rw [E3.out])) ?_
      simp only [Act.put, List.setIfInBounds_toArray, List.set_cons_succ, List.set_cons_zero]
      go_big_quiet_step (fail)
      go_big_quiet_step (fail)
      go_big_quiet_step (fail)
      refine wpQuiet_nil ?_
      rintro w9 ⟨⟨W9, b9⟩, e9⟩
      dsimp only at e9
      subst e9
      go_wp2_with fail
      go_ret3
      exact ⟨HE.out, ab_trans b7 b9⟩
theorem counted_nil (v : Value) (s : Int) (w : World) (V0 : World) (hv : Is V0 v []) :
    Calls Try.prog 59 #[v, .int .i64 s] w fun e w' => e = .returned (.tuple #[.slice none 0 0, .slice none 0 0, .bool false]) ∧ Below w.heap.size w w' := by
  obtain ⟨q, cap, e⟩ := hv.form
  subst e
  exact counted_short w s cap q
end Go.Proofs.Ytjbhicjnnghjjaa
