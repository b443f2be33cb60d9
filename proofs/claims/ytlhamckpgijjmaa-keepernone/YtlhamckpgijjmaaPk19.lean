/-
  note.Check: which notes are in form.
  Keeper: which numbers are keys, copies of lists, a ballot's numbers, an answer.
  Keeper: a row of the diary.
-/
import Derived.Test.YtlhamckpgijjmaaPk18
import Derived.Test.YtlhamckpgijjmaaPk10
import Derived.Test.YtlhamckpgijjmaaPk11
namespace Go.Proofs.Ytlhamckpgijjmaa
open Go.RowKit Go.Shelf
set_option linter.unusedVariables false

theorem cells_op {W : World} {g off : Nat} {o : Nat → Int} (h : W.rangeAt g off (OA o).toList) : W.cell? ⟨g, off, none⟩ = some (.int .i64 (o 0)) ∧ W.cell? ⟨g, off + 1, none⟩ = some (.int .i64 (o 1)) ∧ W.cell? ⟨g, off + 2, none⟩ = some (.int .i64 (o 2)) ∧ W.cell? ⟨g, off + 3, none⟩ = some (.int .i64 (o 3)) ∧ W.cell? ⟨g, off + 4, none⟩ = some (.int .i64 (o 4)) :=
  ⟨h 0 _ rfl, h 1 _ rfl, h 2 _ rfl, h 3 _ rfl, h 4 _ rfl⟩
/-- A note's value. -/
abbrev ntV (N : Nt) (vn vo ve : Value) : Value := .agg #[.int .i64 N.k, .int .i64 N.f, .int .i64 N.t, vn, vo, ve]

/-- What Check answers. -/
def CkP (N : Nt) (e : Ending) : Prop := (GoodN N → e = .returned .nilIface) ∧ (¬ GoodN N → e = .returned (Err 2))
theorem notSome {k : Int} (h : ∀ a b c d e, shp k ≠ some (a, b, c, d, e)) : shp k = none := by
  cases e : shp k with
  | none => rfl
  | some x => obtain ⟨a, b, c, d, f⟩ := x; exact absurd e (h a b c d f)

set_option maxHeartbeats 1000000 in
set_option maxRecDepth 100000 in
theorem check_any (N : Nt) (vn vo ve : Value) (w : World) (h1 : Is w vn N.ns) (h2 : SR 5 k64 w vo N.os) (h3 : SR 76 ek w ve N.es) :
    Calls Try.prog 40 #[ntV N vn vo ve] w fun e w' => CkP N e ∧ Below w.heap.size w w' := by
  obtain ⟨k, f, t, ns, os, es⟩ := N
  obtain ⟨qn, cn, gn, on, rfl, _, hcn, -, -, -⟩ := h1
  obtain ⟨qo, co, go, oo, rfl, hlo, hco, hpo, hgo, hro⟩ := h2
  obtain ⟨qe, ce, ge, oe, rfl, _, hce, -, -, -⟩ := h3
  have HF := shp_fits k ns.length os.length es.length
  dsimp only at *
  have hnn : ns.length ≤ 9223372036854775807 := by omega
  have HF' : Hid (FitK k ns.length os.length es.length ↔ ∃ a b c d e, shp k = some (a, b, c, d, e) ∧ FitS a b c d e ns.length os.length es.length) := HF
  clear HF
  have HG : Hid (GoodN ⟨k, f, t, ns, os, es⟩ ↔ (0 ≤ f ∧ f ≤ 999) ∧ (0 ≤ t ∧ t ≤ 999) ∧ FitK k ns.length os.length es.length ∧ ∀ o ∈ os, o 1 = 1 ∨ o 1 = 2) := ⟨fun h => ⟨h.f, h.t, h.fit, h.os⟩, fun h => ⟨h.1, h.2.1, h.2.2.1, h.2.2.2⟩⟩
  generalize ns.length = n at *
  generalize hol : os.length = m at *
  generalize es.length = p at *
  go_enter Try.func40, Try.ntmps40
  by_cases hs : ∃ a b c d e, shp k = some (a, b, c, d, e)
  · obtain ⟨a, b, c, d, e, hs⟩ := hs
    have h2s := shp_two hs
    have HK : Hid (FitK k n m p ↔ FitS a b c d e n m p) := by
      refine HF'.out.trans ⟨?_, fun h => ⟨a, b, c, d, e, hs, h⟩⟩
      rintro ⟨a', b', c', d', e', h1, h2⟩
      rw [hs] at h1
      cases h1
      exact h2
    have HSh : Hid (shp k = some (a, b, c, d, e)) := hs
    clear hs HF'
    go_upto_region 2 with (go_at_call 57; refine (shape_ok _ a b c d e _ HSh.out).mono ?_; rintro r W1 ⟨rfl, b1⟩)
    have hB1 : Blk W1 w.heap.size #[.int .i64 k, .int .i64 f, .int .i64 t, .slice qn n cn, .slice qo m co, .slice qe p ce] 35 := (Blk.new w _ _).keep b1
    have hw1 : Below w.heap.size w W1 := ab_trans (ab_alloc (Below.refl _ _) _) b1
    have hB2 := hB1.alloc (.cells #[.int .i64 a, .int .i64 b, .int .i64 c, .int .i64 d, .int .i64 e] 125)
    have hS2 := Blk.new W1 #[.int .i64 a, .int .i64 b, .int .i64 c, .int .i64 d, .int .i64 e] 125
    have hw2 := ab_alloc hw1 (.cells #[.int .i64 a, .int .i64 b, .int .i64 c, .int .i64 d, .int .i64 e] 125)
    clear hB1 hw1 b1
    generalize W1.alloc (.cells #[.int .i64 a, .int .i64 b, .int .i64 c, .int .i64 d, .int .i64 e] 125) = V at *
    generalize W1.heap.size = B at *
    have d0 : V.cell? ⟨w.heap.size, 0, none⟩ = some (.int .i64 k) := hB2.at rfl
    have d1 : V.cell? ⟨w.heap.size, 1, none⟩ = some (.int .i64 f) := hB2.at rfl
    have d2 : V.cell? ⟨w.heap.size, 2, none⟩ = some (.int .i64 t) := hB2.at rfl
    have d3 : V.cell? ⟨w.heap.size, 3, none⟩ = some (.slice qn n cn) := hB2.at rfl
    have d4 : ∀ W, Below V.heap.size V W → W.cell? ⟨w.heap.size, 4, none⟩ = some (.slice qo m co) := fun W hb => (hB2.keep hb).at rfl
    have d4' := d4 V (Below.refl _ _)
    have d5 : V.cell? ⟨w.heap.size, 5, none⟩ = some (.slice qe p ce) := hB2.at rfl
    have s0 : V.cell? ⟨B, 0, none⟩ = some (.int .i64 a) := hS2.at rfl
    have s1 : V.cell? ⟨B, 1, none⟩ = some (.int .i64 b) := hS2.at rfl
    have s2 : V.cell? ⟨B, 2, none⟩ = some (.int .i64 c) := hS2.at rfl
    have s3 : V.cell? ⟨B, 3, none⟩ = some (.int .i64 d) := hS2.at rfl
    have s4 : V.cell? ⟨B, 4, none⟩ = some (.int .i64 e) := hS2.at rfl
    clear hB2 hS2
    by_cases cf : 0 ≤ f ∧ f ≤ 999
    · have ef : decide (0 ≤ f ∧ f ≤ 999) = true := decide_eq_true cf
      by_cases ct : 0 ≤ t ∧ t ≤ 999
      · have et : decide (0 ≤ t ∧ t ≤ 999) = true := decide_eq_true ct
        by_cases cs : FitS a b c d e n m p
        · have HY : Hid ((∀ o ∈ os, o 1 = 1 ∨ o 1 = 2) → CkP ⟨k, f, t, ns, os, es⟩ (.returned .nilIface)) := fun h => ⟨fun _ => rfl, fun hn => absurd (HG.out.2 ⟨cf, ct, HK.out.2 cs, h⟩) hn⟩
          have HNo : Hid ((∃ o ∈ os, ¬ (o 1 = 1 ∨ o 1 = 2)) → CkP ⟨k, f, t, ns, os, es⟩ (.returned (Err 2))) := fun ⟨o, ho, hb⟩ => ⟨fun h => absurd ((HG.out.1 h).2.2.2 o ho) hb, fun _ => rfl⟩
          clear HG HSh
          go_upto_region 4 with (first
            | (go_at_call 58; refine (isNode_any _ _).mono ?_; rintro r W3 ⟨rfl, rfl⟩)
            | (go_at_call 59; refine (fits_any a b c d e k f t qn qo qe n m p cn co ce _ h2s.1 ⟨h2s.2.1, h2s.2.2.1⟩ hnn).mono ?_; rintro r W4 ⟨⟨z, rfl, hz⟩, b4⟩; obtain rfl : z = true := hz.2 cs; clear hz))
          have d4'' := d4 W4 b4
          go_wp2_with fail
          have hw4 := ab_trans hw2 b4
          clear d0 d1 d2 d3 d4 d4' d5 s0 s1 s2 s3 s4 d4'' b4 hw2 cs HK cf ef ct et
          go_loopw [37] (fun i wr => ∃ j : Nat, j ≤ m ∧ i = .int .i64 (j : Int) ∧ (∀ o ∈ os.take j, o 1 = 1 ∨ o 1 = 2) ∧ Below w.heap.size w wr) (fun i _ => m - (intOf i).toNat)
          case atStart => exact ⟨0, by omega, rfl, fun o ho => by simp at ho, hw4⟩
          case round =>
            clear hw4
            obtain ⟨j, hj, rfl, hgood, hb⟩ := hrel
            have HGd : Hid (∀ o ∈ os.take j, o 1 = 1 ∨ o 1 = 2) := hgood
            clear hgood
            by_cases cj : j = m
            · subst cj
              have HE : Hid (CkP ⟨k, f, t, ns, os, es⟩ (.returned .nilIface)) := HY.out (by have := HGd.out; rwa [List.take_of_length_le (by omega)] at this)
              go_wp2_with fail
              go_ret
              exact ⟨HE.out, hb⟩
            · obtain ⟨x, hx⟩ : ∃ x, os[j]? = some x := ⟨os[j], List.getElem?_eq_getElem (by omega)⟩
              obtain rfl := hpo (by omega)
              have hr : wr.rangeAt go (oo + j * 5) (OA x).toList := fun i v hv => (hb.cell (p := ⟨go, _, none⟩) (hgo (by omega))).trans (hro j x hx i v hv)
              obtain ⟨x0, x1, x2, x3, x4⟩ := cells_op hr
              have hji : (j : Int) < (m : Int) := by omega
              have hjm : j < m := by omega
              have HX : Hid (x ∈ os) := List.mem_of_getElem? hx
              have HT : Hid (os.take (j + 1) = os.take j ++ [x]) := by show _ = _; rw [List.take_add_one, hx, Option.toList_some]
              clear hr hro hpo hgo hx hol
              by_cases c1 : x 1 = 1
              · have e1 : (x 1 != 1) = false := by simp [c1]
                go_wp2_with fail
                refine ⟨⟨j + 1, by omega, rfl, ?_, ab_alloc hb _⟩, by simp only [intOf]; omega⟩
                intro o ho
                rw [HT.out] at ho
                rcases List.mem_append.1 ho with ho | ho
                · exact HGd.out o ho
                · simp at ho; subst ho; exact .inl c1
              · have e1 : (x 1 != 1) = true := by simp [c1]
                by_cases c2 : x 1 = 2
                · have e2 : (x 1 != 2) = false := by simp [c2]
                  go_wp2_with fail
                  refine ⟨⟨j + 1, by omega, rfl, ?_, ab_alloc hb _⟩, by simp only [intOf]; omega⟩
                  intro o ho
                  rw [HT.out] at ho
                  rcases List.mem_append.1 ho with ho | ho
                  · exact HGd.out o ho
                  · simp at ho; subst ho; exact .inr c2
                · have e2 : (x 1 != 2) = true := by simp [c2]
                  have HE : Hid (CkP ⟨k, f, t, ns, os, es⟩ (.returned (Err 2))) := HNo.out ⟨x, HX.out, by omega⟩
                  go_wp2_with fail
                  go_ret
                  exact ⟨HE.out, ab_alloc hb _⟩
        · have HNo : Hid (CkP ⟨k, f, t, ns, os, es⟩ (.returned (Err 2))) := ⟨fun h => absurd (HK.out.1 (HG.out.1 h).2.2.1) cs, fun _ => rfl⟩
          go_wp2_with (first
            | (go_at_call 58; refine (isNode_any _ _).mono ?_; rintro r W3 ⟨rfl, rfl⟩)
            | (go_at_call 59; refine (fits_any a b c d e k f t qn qo qe n m p cn co ce _ h2s.1 ⟨h2s.2.1, h2s.2.2.1⟩ hnn).mono ?_; rintro r W4 ⟨⟨z, rfl, hz⟩, b4⟩; obtain rfl : z = false := by cases z with | false => rfl | true => exact absurd (hz.1 rfl) cs))
          go_ret
          exact ⟨HNo.out, ab_trans hw2 b4⟩
      · have et : decide (0 ≤ t ∧ t ≤ 999) = false := decide_eq_false ct
        have HNo : Hid (CkP ⟨k, f, t, ns, os, es⟩ (.returned (Err 2))) := ⟨fun h => absurd (HG.out.1 h).2.1 ct, fun _ => rfl⟩
        go_wp2_with (go_at_call 58; refine (isNode_any _ _).mono ?_; rintro r W3 ⟨rfl, rfl⟩)
        go_ret
        exact ⟨HNo.out, hw2⟩
    · have ef : decide (0 ≤ f ∧ f ≤ 999) = false := decide_eq_false cf
      have HNo : Hid (CkP ⟨k, f, t, ns, os, es⟩ (.returned (Err 2))) := ⟨fun h => absurd (HG.out.1 h).1 cf, fun _ => rfl⟩
      go_wp2_with (go_at_call 58; refine (isNode_any _ _).mono ?_; rintro r W3 ⟨rfl, rfl⟩)
      go_ret
      exact ⟨HNo.out, hw2⟩
  · have HNo : Hid (CkP ⟨k, f, t, ns, os, es⟩ (.returned (Err 2))) := ⟨fun h => by
        obtain ⟨a, b, c, d, e, h1, _⟩ := HF'.out.1 (HG.out.1 h).2.2.1
        exact absurd ⟨a, b, c, d, e, h1⟩ hs, fun _ => rfl⟩
    have HS : Hid (shp k = none) := notSome (fun a b c d e h => hs ⟨a, b, c, d, e, h⟩)
    clear hs
    go_wp2_with (go_at_call 57; refine (shape_no _ _ HS.out).mono ?_; rintro r W1 ⟨rfl, b1⟩)
    go_ret
    exact ⟨HNo.out, ab_alloc (ab_trans (ab_alloc (Below.refl _ _) _) b1) _⟩
end Go.Proofs.Ytlhamckpgijjmaa
namespace Go.Proofs.Ytlhamckpgijjmaa
open Go.RowKit
set_option linter.unusedVariables false
set_option maxRecDepth 100000

def keyB (k : Int) : Bool := decide (0 ≤ k) && decide (k < 100)
theorem keyB_iff {k : Int} : keyB k = true ↔ 0 ≤ k ∧ k < 100 := by simp [keyB]
theorem iskey_any (k : Int) (w : World) : Calls Try.prog 23 #[.int .i64 k] w fun e w' => e = .returned (.bool (keyB k)) ∧ w' = w := by
  by_cases h0 : 0 ≤ k
  · have hk : keyB k = decide (k < 100) := by unfold keyB; rw [decide_eq_true h0]; rfl
    rw [hk]
    clear hk
    go_enter Try.func23, Try.ntmps23
    go_wp2_with fail
    go_ret
    exact ⟨rfl, rfl⟩
  · have hk : keyB k = false := by unfold keyB; rw [decide_eq_false h0]; rfl
    rw [hk]
    clear hk
    go_enter Try.func23, Try.ntmps23
    go_wp2_with fail
    go_ret
    exact ⟨rfl, rfl⟩
set_option maxHeartbeats 400000 in
theorem kclone_any (v : Value) (l : List Int) (w : World) (hv : Is w v l) (hl : l.length ≤ 100000) : Calls Try.prog 24 #[v] w fun e w' => ∃ v', e = .returned v' ∧ Io w' w.heap.size v' l ∧ Below w.heap.size w w' := by
  go_enter Try.func24, Try.ntmps24
  go_upto_region 1 with fail
  refine wp_region_lit ?_
  refine valS rfl v rfl ?_
  refine app_i w rfl rfl (l := []) (m := l) rfl (own_nil _ _) rfl hv rfl (by omega) (Below.refl _ _) ?_
  intro v' W' hown hnil hb hg hat
  go_wp2_with fail
  go_ret
  exact ⟨_, rfl, io_of hown, hb⟩
set_option maxHeartbeats 400000 in
theorem knums_any (b : Bt) (w : World) : Calls Try.prog 29 #[bV b] w fun e w' => ∃ v', e = .returned v' ∧ Io w' w.heap.size v' (nmB b) ∧ Below w.heap.size w w' := by
  go_enter Try.func29, Try.ntmps29
  go_upto_region 1 with fail
  obtain ⟨A, hAe, hB, bA⟩ := blk1 w (bC b) 38
  rw [show w.alloc (.cells _ 38) = A from hAe]
  clear hAe
  have c0 := hB.at (i := 0) rfl
  have c1 := hB.at (i := 1) rfl
  have c2 := hB.at (i := 2) rfl
  go_wp2_with (refine bs_own rfl rfl [b.n, b.nd, b.lf] (by simp only [List.map_toArray, List.map_cons, List.map_nil]; rfl) (isl3 _ _ _ _) rfl (by decide) ?_; intro W3 hN3 b3 z3; clear z3; go_frame)
  go_ret
  exact ⟨_, rfl, (io_of hN3).less bA.size, ab_trans bA b3⟩
end Go.Proofs.Ytlhamckpgijjmaa
namespace Go.Proofs.Ytlhamckpgijjmaa
open Go.RowKit
set_option linter.unusedVariables false
set_option maxRecDepth 100000

/-- The row that tells a key's register. -/
def rowB (k : Int) (r : Rg) : List Nat := [] ++ numsB [k] ++ numsB (nmR r)
theorem numsB_one (k : Int) : (numsB [k]).length ≤ 1000 := by have := numsB_len [k]; simp only [List.length_cons, List.length_nil] at this; omega
set_option maxHeartbeats 1000000 in
theorem krow_any (k : Int) (r : Rg) (v : Value) (w : World) (hv : Is w v r.l) (hl : r.l.length ≤ 1000) (hk : In64 [k]) (hr : In64 (nmR r)) :
    Calls Try.prog 49 #[.int .i64 k, rV r.p r.a v] w fun e w' => ∃ v', e = .returned v' ∧ Ow w' w.heap.size v' (rowB k r) ∧ Below w.heap.size w w' := by
  have hnl : (nmR r).length ≤ 4000 := by unfold nmR nmB; simp only [List.length_append, List.length_cons, List.length_nil]; omega
  have hkl : (numsB [k]).length ≤ 1000 := numsB_one k
  obtain ⟨q, c, e⟩ := hv.form
  obtain ⟨n, hn⟩ : ∃ n, r.l.length = n := ⟨_, rfl⟩
  rw [hn] at e
  subst e
  go_enter Try.func49, Try.ntmps49
  go_upto_region 1 with fail
  obtain ⟨A, hAe, hB, bA⟩ := blk1 w (rC r.p r.a (.slice q n c)) 40
  rw [show w.alloc (.cells _ 40) = A from hAe]
  clear hAe
  have hvA := hv.keep bA
  refine region_L 5 (S := fun w' => Below A.heap.size A w') (by kernel_rfl) ((Below.refl _ _).drew) (fun hHeld => ?_)
  have hdr : Below A.heap.size A A.drew := hHeld
  generalize A.drew = V0 at *
  refine takeP (i := 0) (some 5) (by rfl) rfl rfl (by kernel_rfl) (by kernel_rfl) (by kernel_rfl) (fun _ _ _ h => h) (by rfl) (fun w => by go_simp; try rfl) hHeld ?_
  go_frame
  refine takeL (i := 3) [4, 5] (some 8) (by rfl) rfl rfl (by kernel_rfl) (by kernel_rfl) (by kernel_rfl) (by kernel_rfl) (fun _ _ _ h => h) (by rfl) (fun w hSw => by (try dsimp only at hSw); (have hh := hB.keep hSw; have t0 := hh.at (i := 0) rfl; have t1 := hh.at (i := 1) rfl; have t2 := hh.at (i := 2) rfl; have t3 := hh.at (i := 3) rfl; have t4 := hh.at (i := 4) rfl; have t5 := hh.at (i := 5) rfl; have t6 := hh.at (i := 6) rfl; go_simp; try rfl)) hHeld ?_
  go_frame
  refine anyL_ready (rs := [1]) (by kernel_rfl) (by simp) (AllL.cons rfl (fun K hK => ?_) AllL.nil)
  rw [if_pos (by rfl)]
  refine bs_iW (some 6) rfl rfl [k] (by simp only [List.map_toArray, List.map_cons, List.map_nil]; rfl) (isl1 _ _) rfl (by decide) fun W1 own1 b1 => ?_
  have hb1 := ab_trans hdr b1
  refine hK.out _ _ hb1 (fun hHeld => ?_)
  clear hK K
  try go_frame
  refine anyL_ready (rs := [2]) (by kernel_rfl) (by simp) (AllL.cons rfl (fun K hK => ?_) AllL.nil)
  go_simp
  refine (put_any _ [] _ [k] W1 (sl_nil _) (by simp) (own_is own1) (by simp) hk).mono ?_
  rintro e W2 ⟨v2, rfl, O2, b2⟩
  show K _ _
  have hb2 := ab_trans hb1 b2
  refine hK.out _ _ hb2 (fun hHeld => ?_)
  clear hK K
  try go_frame
  refine anyL_ready (rs := [4]) (by kernel_rfl) (by simp) (AllL.cons rfl (fun K hK => ?_) AllL.nil)
  go_simp
  refine (nums9_any r (.slice q n c) W2 (hvA.keep hb2) (by omega)).mono ?_
  rintro e W3 ⟨v3, rfl, O3, b3⟩
  show K _ _
  have hb3 := ab_trans hb2 b3
  refine hK.out _ _ hb3 (fun hHeld => ?_)
  clear hK K
  try go_frame
  refine anyL_ready (rs := [5]) (by kernel_rfl) (by simp) (AllL.last rfl (by kernel_rfl) (fun K hK => ?_))
  go_simp
  refine (put_any _ ([] ++ numsB [k]) _ (nmR r) W3 (O2.keep b3).sl (by simp only [List.nil_append]; omega) O3.is hnl hr).mono ?_
  rintro e W4 ⟨v4, rfl, O4, b4⟩
  show K _ _
  have hb4 := ab_trans hb3 b4
  refine hK.out _ _ ?_
  clear hK K
  try go_frame
  refine anyL_ready (rs := [6]) (by kernel_rfl) (by simp) (AllL.free rfl (by kernel_rfl) (fun K hK => ?_))
  go_simp
  refine hK.out _ _ ?_
  clear hK K
  refine anyL_done (by kernel_rfl) ?_
  go_wp2_with fail
  go_ret
  exact ⟨_, rfl, O4.less (Nat.le_trans bA.size hb3.size), ab_trans bA hb4⟩
end Go.Proofs.Ytlhamckpgijjmaa
