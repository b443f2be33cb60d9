/-
  spring: Handle of a note that asks for operations and cuts nothing.
  spring: Emit, Mark and Handle where there is no spring, Open where there is no tape.
-/
import Derived.Test.YthmolbcnbcajdaaGreatPk51
import Derived.Test.YthmolbcnbcajdaaGreatPk35
import Derived.Test.YthmolbcnbcajdaaGreatPk29
import Derived.Test.YthmolbcnbcajdaaGreatPk44
import Derived.Test.YthmolbcnbcajdaaGreatPk47
namespace Go.Proofs.YthmolbcnbcajdaaGreat
open Go.RowKit
set_option linter.unusedVariables false
set_option maxRecDepth 100000

/-- The cells of a note. -/
def ntC6 (k f t : Int) (vn vo ve : Value) : Array Value := #[.int .i64 k, .int .i64 f, .int .i64 t, vn, vo, ve]
/-- The numbers of places. -/
def spL (l : List (Int × Int)) : List Int := l.flatMap fun p => [p.1, p.2]
theorem isl2s (a b : Int) (w : World) : (Instr.buildSlice 22 2 #[(0, .int .i64 a), (1, .int .i64 b)]).run Tryz.prog w = .ok (.slice (some ⟨w.heap.size, 0, none⟩) 2 2) (w.alloc (.cells (ints [a, b]).toArray 3)) := by kernel_rfl
theorem bsn6 (k f t : Int) (q1 q2 : Option Addr) (n1 c1 n2 c2 : Nat) (w : World) : (Instr.buildSlice 39 1 #[(0, .agg (ntC6 k f t (.slice q1 n1 c1) (.slice q2 n2 c2) (.slice none 0 0)))]).run Tryz.prog w = .ok (.slice (some ⟨w.heap.size, 0, none⟩) 1 1) (w.alloc (.cells (ntC6 k f t (.slice q1 n1 c1) (.slice q2 n2 c2) (.slice none 0 0)) 26)) := by kernel_rfl
theorem Is.tail1 {W : World} {q : Option Addr} {n cap : Nat} {l : List Int} (h : Is W (.slice q n cap) l) (hn : 1 ≤ n) : ∃ q', sliced q 1 n cap 1 = .slice q' (n - 1) (cap - 1) ∧ Is W (.slice q' (n - 1) (cap - 1)) (l.drop 1) := by
  have hc := h.len
  obtain ⟨q', e⟩ := sliced_form q 1 n cap
  refine ⟨q', e, ?_⟩
  have := h.sub hn (Nat.le_refl _) (Nat.le_refl _) hc.2.1 e.symm
  rwa [List.take_of_length_le (by rw [List.length_drop]; omega)] at this
theorem bsnW {o : Oper} {a : Act} {w : World} {K : Act → World → Prop} {Q : Exit → Act → World → Prop} (d : Option Tmp) (hd : o.dst = d) {parts : Array (Nat × Operand)} (ho : o.op = .buildSlice 39 1 parts) (k f t : Int) (q1 q2 : Option Addr) (n1 c1 n2 c2 : Nat)
    (hl : parts.map (fun (i, x) => (i, a.eval x)) = #[(0, .agg (ntC6 k f t (.slice q1 n1 c1) (.slice q2 n2 c2) (.slice none 0 0)))])
    (h : ∀ W', Blk W' w.heap.size (ntC6 k f t (.slice q1 n1 c1) (.slice q2 n2 c2) (.slice none 0 0)) 26 → Below w.heap.size w W' → K (a.put d (.slice (some ⟨w.heap.size, 0, none⟩) 1 1)) W') : o.wp Tryz.prog a w K Q := by
  subst hd
  unfold Oper.wp execOp
  simp only [ho, Sem.run_bind, hl, bsn6, Result.andThen_ok]
  exact h _ (Blk.new _ _ _) ((Below.refl _ _).alloc (Nat.le_refl _) _)
theorem spL_len : ∀ l : List (Int × Int), (spL l).length = 2 * l.length
  | [] => rfl
  | p :: l => by
    have := spL_len l
    unfold spL at *
    simp only [List.flatMap_cons, List.length_append, List.length_cons, List.length_nil, this]
    omega
set_option maxHeartbeats 4000000 in
theorem sphandle_new {B d pb sb : Nat} {vr vh vc : Value} {S : Sm} {node chunk : Int} (f fr : Int) (rest : List Int) (os : List (Nat → Int)) (es : List (Nat → Int)) (vn vo ve : Value) (w : World) (hk : Blk w pb (sgC d node chunk sb) 51) (hS : Sq w B sb vr vh vc S) (hB : B ≤ w.heap.size)
    (h1 : Is w vn (fr :: rest)) (h2 : SR 5 k64 w vo os) (h3 : SR 76 ek w ve es) (hG : GoodN ⟨6, f, node, fr :: rest, os, es⟩) (hl : rest.length ≤ 1000) (hN : ¬ ((rest.length / 2 : Nat) : Int) = lanS S) :
    Calls Tryz.prog 8 #[tptr pb, .agg (ntC6 6 f node vn vo ve)] w fun e w' => ∃ g vn' vo', e = .returned (.slice (some ⟨g, 0, none⟩) 1 1) ∧ Blk w' g (ntC6 7 node f vn' vo' (.slice none 0 0)) 26 ∧ Is w' vn' (fr :: repN S fr chunk :: spL S.ct) ∧ ER E5 w' vo' (repL S fr chunk) ∧ (∀ r, vo'.ownBlock = some r → w.heap.size ≤ r) ∧ Below w.heap.size w w' := by
  have HC : Hid (∀ V, Below w.heap.size w V → Calls Tryz.prog 21 #[.agg (ntC6 6 f node vn vo ve)] V fun e w' => e = .returned .nilIface ∧ Below V.heap.size V w') := fun V hV => (check_any ⟨6, f, node, fr :: rest, os, es⟩ vn vo ve V (h1.keep hV) (h2.keep hV) (h3.keep hV)).mono (by rintro e w' ⟨hp, hb⟩; exact ⟨hp.1 hG, hb⟩)
  obtain ⟨q1, c1, e1⟩ := h1.form
  obtain ⟨n1, hn1⟩ : ∃ n1, (fr :: rest).length = n1 := ⟨_, rfl⟩
  have hrl : rest.length = n1 - 1 := by rw [← hn1]; simp
  have hn1p : 1 ≤ n1 := by rw [← hn1]; simp
  rw [hn1] at e1
  subst e1
  obtain ⟨q2, c2, g2, o2, e2, -⟩ := h2
  obtain ⟨q3, c3, g3, o3, e3, -⟩ := h3
  generalize os.length = n2 at *
  generalize es.length = n3 at *
  subst e2 e3
  obtain ⟨qt, et, ht⟩ := h1.tail1 hn1p
  rw [List.drop_succ_cons, List.drop_zero] at ht
  have HET : Hid (sliced q1 1 n1 c1 1 = .slice qt (n1 - 1) (c1 - 1)) := et
  clear et hrl hn1
  obtain ⟨g1, o1, eq1, hg1, hr1⟩ := h1.at (by omega)
  subst eq1
  have hcap := h1.len
  have x0 : w.cell? ⟨g1, o1, none⟩ = some (.int .i64 fr) := hr1 0 fr rfl
  obtain ⟨A, hE, hX, hw⟩ := blk1 w (ntC6 6 f node (.slice (some ⟨g1, o1, none⟩) n1 c1) (.slice q2 n2 c2) (.slice q3 n3 c3)) 26
  have hX6 := fun (V : World) (hV : Below A.heap.size A V) => hX.keep hV
  have hk6 := fun (V : World) (hV : Below A.heap.size A V) => sg_c ((hk.keep hw).keep hV)
  have hnn : (node != node) = false := by simp
  unfold ntC6 at hE
  unfold ntC6
  have E1 := spn0
  clear hr1 hG
  go_enter Tryz.func8, Tryz.ntmps8
  go_upto_region 1 with fail
  clear hE
  refine wp_region_held_drew (S := fun w' => Below A.heap.size A w') (by kernel_rfl) (ab_drew (Below.refl _ _)) (fun hHeld => ?_)
  generalize A.drew = V at *
  refine takeH (i := 0) (some 10) rfl rfl (by kernel_rfl) (by kernel_rfl) (by kernel_rfl) (fun _ _ _ h => h) (by rfl) (fun w hSw => by (try dsimp only at hSw); go_simp; try rfl) hHeld ?_
  go_frame
  refine takeH (i := 1) (some 11) rfl rfl (by kernel_rfl) (by kernel_rfl) (by kernel_rfl) (fun _ _ _ h => h) (by rfl) (fun w hSw => by (try dsimp only at hSw); go_simp; try rfl) hHeld ?_
  go_frame
  refine takeH (i := 2) (some 12) rfl rfl (by kernel_rfl) (by kernel_rfl) (by kernel_rfl) (fun _ _ _ h => h) (by rfl) (fun w hSw => by (try dsimp only at hSw); go_simp; try rfl) hHeld ?_
  go_frame
  refine takeH (i := 3) (some 13) rfl rfl (by kernel_rfl) (by kernel_rfl) (by kernel_rfl) (fun _ _ _ h => h) (by rfl) (fun w hSw => by (try dsimp only at hSw); go_simp; try rfl) hHeld ?_
  go_frame
  refine takeH (i := 4) (some 14) rfl rfl (by kernel_rfl) (by kernel_rfl) (by kernel_rfl) (fun _ _ _ h => h) (by rfl) (fun w hSw => by (try dsimp only at hSw); (have y : w.cell? ⟨_, 0, none⟩ = some (.int .i64 6) := (hX6 _ hSw).at rfl; go_simp; try rfl)) hHeld ?_
  go_frame
  refine takeH (i := 5) (some 15) rfl rfl (by kernel_rfl) (by kernel_rfl) (by kernel_rfl) (fun _ _ _ h => h) (by rfl) (fun w hSw => by (try dsimp only at hSw); go_simp; try rfl) hHeld ?_
  go_frame
  refine takeH (i := 6) (some 16) rfl rfl (by kernel_rfl) (by kernel_rfl) (by kernel_rfl) (fun _ _ _ h => h) (by rfl) (fun w hSw => by (try dsimp only at hSw); go_simp; try rfl) hHeld ?_
  go_frame
  refine takeH (i := 7) (some 17) rfl rfl (by kernel_rfl) (by kernel_rfl) (by kernel_rfl) (fun _ _ _ h => h) (by rfl) (fun w hSw => by (try dsimp only at hSw); go_simp; try rfl) hHeld ?_
  go_frame
  refine takeH (i := 8) (some 18) rfl rfl (by kernel_rfl) (by kernel_rfl) (by kernel_rfl) (fun _ _ _ h => h) (by rfl) (fun w hSw => by (try dsimp only at hSw); go_simp; try rfl) hHeld ?_
  go_frame
  refine takeH (i := 9) (some 19) rfl rfl (by kernel_rfl) (by kernel_rfl) (by kernel_rfl) (fun _ _ _ h => h) (by rfl) (fun w hSw => by (try dsimp only at hSw); (have y : w.cell? ⟨_, 2, none⟩ = some (.int .i64 node) := (hX6 _ hSw).at rfl; go_simp; try rfl)) hHeld ?_
  go_frame
  refine takeH (i := 10) (some 20) rfl rfl (by kernel_rfl) (by kernel_rfl) (by kernel_rfl) (fun _ _ _ h => h) (by rfl) (fun w hSw => by (try dsimp only at hSw); go_simp; try rfl) hHeld ?_
  go_frame
  refine takeH (i := 11) (some 21) rfl rfl (by kernel_rfl) (by kernel_rfl) (by kernel_rfl) (fun _ _ _ h => h) (by rfl) (fun w hSw => by (try dsimp only at hSw); go_simp; try rfl) hHeld ?_
  go_frame
  refine takeH (i := 12) (some 22) rfl rfl (by kernel_rfl) (by kernel_rfl) (by kernel_rfl) (fun _ _ _ h => h) (by rfl) (fun w hSw => by (try dsimp only at hSw); go_simp; try rfl) hHeld ?_
  go_frame
  refine takeH (i := 13) (some 23) rfl rfl (by kernel_rfl) (by kernel_rfl) (by kernel_rfl) (fun _ _ _ h => h) (by rfl) (fun w hSw => by (try dsimp only at hSw); (have y := (hk6 _ hSw).2.1; go_simp; try rfl)) hHeld ?_
  go_frame
  refine takeH (i := 14) (some 24) rfl rfl (by kernel_rfl) (by kernel_rfl) (by kernel_rfl) (fun _ _ _ h => h) (by rfl) (fun w hSw => by (try dsimp only at hSw); go_simp; try rfl) hHeld ?_
  go_frame
  refine takeH (i := 15) (some 25) rfl rfl (by kernel_rfl) (by kernel_rfl) (by kernel_rfl) (fun _ _ _ h => h) (by rfl) (fun w hSw => by (try dsimp only at hSw); go_simp; try rfl) hHeld ?_
  go_frame
  refine takeH (i := 16) (some 26) rfl rfl (by kernel_rfl) (by kernel_rfl) (by kernel_rfl) (fun _ _ _ h => h) (by rfl) (fun w hSw => by (try dsimp only at hSw); go_simp; try rfl) hHeld ?_
  go_frame
  refine takeH (i := 17) (some 27) rfl rfl (by kernel_rfl) (by kernel_rfl) (by kernel_rfl) (fun _ _ _ h => h) (by rfl) (fun w hSw => by (try dsimp only at hSw); (have y0 : w.cell? ⟨_, 0, none⟩ = some (.int .i64 6) := (hX6 _ hSw).at rfl; have y1 : w.cell? ⟨_, 1, none⟩ = some (.int .i64 f) := (hX6 _ hSw).at rfl; have y2 : w.cell? ⟨_, 2, none⟩ = some (.int .i64 node) := (hX6 _ hSw).at rfl; have y3 : w.cell? ⟨_, 3, none⟩ = some (.slice (some ⟨g1, o1, none⟩) n1 c1) := (hX6 _ hSw).at rfl; have y4 : w.cell? ⟨_, 4, none⟩ = some (.slice q2 n2 c2) := (hX6 _ hSw).at rfl; have y5 : w.cell? ⟨_, 5, none⟩ = some (.slice q3 n3 c3) := (hX6 _ hSw).at rfl; go_simp; try rfl)) hHeld ?_
  go_frame
  refine wpAnyH_ready (rs := [18]) (by kernel_rfl) (by simp) (AllReadyH.cons rfl (fun K hK => ?_) AllReadyH.nil)
  go_simp
  refine (HC.out V (ab_trans hw hHeld)).mono ?_
  rintro e W1 ⟨rfl, b1⟩
  show K _ _
  refine hK.out _ _ (ab_trans hHeld b1) (fun hHeld => ?_)
  clear hK K
  try go_frame
  refine takeH (i := 19) (some 29) rfl rfl (by kernel_rfl) (by kernel_rfl) (by kernel_rfl) (fun _ _ _ h => h) (by rfl) (fun w hSw => by (try dsimp only at hSw); go_simp; try rfl) hHeld ?_
  go_frame
  refine takeH (i := 20) (some 30) rfl rfl (by kernel_rfl) (by kernel_rfl) (by kernel_rfl) (fun _ _ _ h => h) (by rfl) (fun w hSw => by (try dsimp only at hSw); go_simp; try rfl) hHeld ?_
  go_frame
  refine wpAnyH_done (by kernel_rfl) ?_ _
  have hH1 : Below A.heap.size A W1 := hHeld
  go_upto_region 3 with fail
  have hn1i : (0 : Int) < (n1 : Int) := by omega
  have hn1n : 0 < n1 := by omega
  refine wp_region_held_drew (S := fun w' => Below A.heap.size A w') (by kernel_rfl) (ab_drew hH1) (fun hHeld => ?_)
  generalize W1.drew = V3 at *
  refine takeH (i := 0) (some 31) rfl rfl (by kernel_rfl) (by kernel_rfl) (by kernel_rfl) (fun _ _ _ h => h) (by rfl) (fun w hSw => by (try dsimp only at hSw); go_simp; try rfl) hHeld ?_
  go_frame
  refine takeH (i := 4) (some 35) rfl rfl (by kernel_rfl) (by kernel_rfl) (by kernel_rfl) (fun _ _ _ h => h) (by rfl) (fun w hSw => by (try dsimp only at hSw); go_simp; try rfl) hHeld ?_
  go_frame
  refine takeH (i := 1) (some 32) rfl rfl (by kernel_rfl) (by kernel_rfl) (by kernel_rfl) (fun _ _ _ h => h) (by rfl) (fun w hSw => by (try dsimp only at hSw); (have y3 : w.cell? ⟨_, 3, none⟩ = some (.slice (some ⟨g1, o1, none⟩) n1 c1) := (hX6 _ hSw).at rfl; go_simp; try rfl)) hHeld ?_
  go_frame
  refine takeH (i := 5) (some 36) rfl rfl (by kernel_rfl) (by kernel_rfl) (by kernel_rfl) (fun _ _ _ h => h) (by rfl) (fun w hSw => by (try dsimp only at hSw); (have y3 : w.cell? ⟨_, 3, none⟩ = some (.slice (some ⟨g1, o1, none⟩) n1 c1) := (hX6 _ hSw).at rfl; go_simp; try rfl)) hHeld ?_
  go_frame
  refine takeH (i := 2) (some 33) rfl rfl (by kernel_rfl) (by kernel_rfl) (by kernel_rfl) (fun _ _ _ h => h) (by rfl) (fun w hSw => by (try dsimp only at hSw); go_simp; try rfl) hHeld ?_
  go_frame
  refine takeH (i := 3) (some 34) rfl rfl (by kernel_rfl) (by kernel_rfl) (by kernel_rfl) (fun _ _ _ h => h) (by rfl) (fun w hSw => by (try dsimp only at hSw); (have y := keep_cell (ab_trans hw hSw) x0 hg1; go_simp; try rfl)) hHeld ?_
  go_frame
  refine takeH (i := 6) (some 37) rfl rfl (by kernel_rfl) (by kernel_rfl) (by kernel_rfl) (fun _ _ _ h => h) (by rfl) (fun w hSw => by (try dsimp only at hSw); exact (sli_l_run (i := 1) rfl rfl rfl rfl hn1p hcap.2.1).trans (by rw [HET.out])) hHeld ?_
  go_frame
  refine wpAnyH_ready (rs := [7]) (by kernel_rfl) (by simp) (AllReadyH.cons rfl (fun K hK => ?_) AllReadyH.nil)
  go_simp
  refine (places_any _ rest (rest.length / 2) V3 (ht.keep (ab_trans hw hHeld)) rfl (by omega)).mono ?_
  rintro e W4 ⟨v4, rfl, hO4, b4⟩
  show K _ _
  have hE4 := (so_eo hO4).er
  have hpl : ¬ (((plsL rest (rest.length / 2)).map plP).length : Int) = lanS S := by rw [List.length_map, plsL_len]; exact hN
  generalize (plsL rest (rest.length / 2)).map plP = ps at *
  obtain ⟨q4, c4, e4⟩ := hE4.form
  obtain ⟨m4, hm4⟩ : ∃ m4, ps.length = m4 := ⟨_, rfl⟩
  rw [hm4] at e4
  subst e4
  have HPL : Hid (¬ (ps.length : Int) = lanS S) := hpl
  clear hm4 hpl hN
  refine hK.out _ _ (ab_trans hHeld b4) (fun hHeld => ?_)
  clear hK K hO4
  try go_frame
  refine takeH (i := 8) (some 5) rfl rfl (by kernel_rfl) (by kernel_rfl) (by kernel_rfl) (fun _ _ _ h => h) (by rfl) (fun w hSw => by (try dsimp only at hSw); go_simp; try rfl) hHeld ?_
  go_frame
  refine takeH (i := 9) (some 6) rfl rfl (by kernel_rfl) (by kernel_rfl) (by kernel_rfl) (fun _ _ _ h => h) (by rfl) (fun w hSw => by (try dsimp only at hSw); go_simp; try rfl) hHeld ?_
  go_frame
  refine wpAnyH_done (by kernel_rfl) ?_ _
  have hH4 : Below A.heap.size A W4 := hHeld
  have hw4 := ab_trans hw hH4
  have hcc := spcut_no _ _ W4 (hk.keep hw4) (hS.keep hw4) (Nat.le_trans hB hw4.size) hE4 HPL.out
  go_upto_region 5 with (go_at_call 23; refine hcc.mono ?_; rintro e W5 ⟨rfl, b5⟩)
  clear hcc hE4
  have hH5 := ab_trans hH4 b5
  have HRP : Hid (∀ V, Below A.heap.size A V → Calls Tryz.prog 24 #[sptr sb, .int .i64 fr, .int .i64 chunk] V fun e w' => ∃ v, e = .returned (.tuple #[v, .int .i64 (repN S fr chunk)]) ∧ ER E5 w' v (repL S fr chunk) ∧ (∀ g, v.ownBlock = some g → V.heap.size ≤ g) ∧ Below V.heap.size V w') := fun V hV => sreplay_new fr chunk V (hS.keep (ab_trans hw hV)) (fun _ => insC_any hS.ok.len hS.ok.srt)
  refine wp_region_held_drew (S := fun w' => Below A.heap.size A w') (by kernel_rfl) (ab_drew hH5) (fun hHeld => ?_)
  generalize W5.drew = V5 at *
  refine takeH (i := 0) (some 43) rfl rfl (by kernel_rfl) (by kernel_rfl) (by kernel_rfl) (fun _ _ _ h => h) (by rfl) (fun w hSw => by (try dsimp only at hSw); go_simp; try rfl) hHeld ?_
  go_frame
  refine takeH (i := 1) (some 44) rfl rfl (by kernel_rfl) (by kernel_rfl) (by kernel_rfl) (fun _ _ _ h => h) (by rfl) (fun w hSw => by (try dsimp only at hSw); go_simp; try rfl) hHeld ?_
  go_frame
  refine takeH (i := 2) (some 45) rfl rfl (by kernel_rfl) (by kernel_rfl) (by kernel_rfl) (fun _ _ _ h => h) (by rfl) (fun w hSw => by (try dsimp only at hSw); go_simp; try rfl) hHeld ?_
  go_frame
  refine takeH (i := 3) (some 46) rfl rfl (by kernel_rfl) (by kernel_rfl) (by kernel_rfl) (fun _ _ _ h => h) (by rfl) (fun w hSw => by (try dsimp only at hSw); (have y := (hk6 _ hSw).2.2.2; go_simp; try rfl)) hHeld ?_
  go_frame
  refine takeH (i := 4) (some 47) rfl rfl (by kernel_rfl) (by kernel_rfl) (by kernel_rfl) (fun _ _ _ h => h) (by rfl) (fun w hSw => by (try dsimp only at hSw); go_simp; try rfl) hHeld ?_
  go_frame
  refine takeH (i := 5) (some 48) rfl rfl (by kernel_rfl) (by kernel_rfl) (by kernel_rfl) (fun _ _ _ h => h) (by rfl) (fun w hSw => by (try dsimp only at hSw); go_simp; try rfl) hHeld ?_
  go_frame
  refine takeH (i := 6) (some 49) rfl rfl (by kernel_rfl) (by kernel_rfl) (by kernel_rfl) (fun _ _ _ h => h) (by rfl) (fun w hSw => by (try dsimp only at hSw); go_simp; try rfl) hHeld ?_
  go_frame
  refine takeH (i := 7) (some 50) rfl rfl (by kernel_rfl) (by kernel_rfl) (by kernel_rfl) (fun _ _ _ h => h) (by rfl) (fun w hSw => by (try dsimp only at hSw); go_simp; try rfl) hHeld ?_
  go_frame
  refine takeH (i := 8) (some 51) rfl rfl (by kernel_rfl) (by kernel_rfl) (by kernel_rfl) (fun _ _ _ h => h) (by rfl) (fun w hSw => by (try dsimp only at hSw); (have y := (hk6 _ hSw).2.2.1; go_simp; try rfl)) hHeld ?_
  go_frame
  refine wpAnyH_ready (rs := [9]) (by kernel_rfl) (by simp) (AllReadyH.cons rfl (fun K hK => ?_) AllReadyH.nil)
  go_simp
  refine (HRP.out V5 hHeld).mono ?_
  rintro e W6 ⟨v6, rfl, hE6, hn6, b6⟩
  show K _ _
  obtain ⟨q6, c6, e6⟩ := hE6.form
  subst e6
  have HN6 : Hid (∀ r, (Value.slice q6 (repL S fr chunk).length c6).ownBlock = some r → w.heap.size ≤ r) := fun r hr => Nat.le_trans (Nat.le_trans hw.size hHeld.size) (hn6 r hr)
  clear hn6
  refine hK.out _ _ (ab_trans hHeld b6) (fun hHeld => ?_)
  clear hK K HRP
  try go_frame
  refine takeH (i := 10) (some 42) rfl rfl (by kernel_rfl) (by kernel_rfl) (by kernel_rfl) (fun _ _ _ h => h) (by rfl) (fun w hSw => by (try dsimp only at hSw); go_simp; try rfl) hHeld ?_
  go_frame
  refine takeH (i := 11) (some 53) rfl rfl (by kernel_rfl) (by kernel_rfl) (by kernel_rfl) (fun _ _ _ h => h) (by rfl) (fun w hSw => by (try dsimp only at hSw); go_simp; try rfl) hHeld ?_
  go_frame
  refine takeH (i := 12) (some 54) rfl rfl (by kernel_rfl) (by kernel_rfl) (by kernel_rfl) (fun _ _ _ h => h) (by rfl) (fun w hSw => by (try dsimp only at hSw); go_simp; try rfl) hHeld ?_
  go_frame
  refine takeH (i := 13) (some 7) rfl rfl (by kernel_rfl) (by kernel_rfl) (by kernel_rfl) (fun _ _ _ h => h) (by rfl) (fun w hSw => by (try dsimp only at hSw); go_simp; try rfl) hHeld ?_
  go_frame
  refine takeH (i := 14) (some 8) rfl rfl (by kernel_rfl) (by kernel_rfl) (by kernel_rfl) (fun _ _ _ h => h) (by rfl) (fun w hSw => by (try dsimp only at hSw); go_simp; try rfl) hHeld ?_
  go_frame
  refine wpAnyH_done (by kernel_rfl) ?_ _
  have hH6 : Below A.heap.size A W6 := hHeld
  obtain ⟨-, -, -, cs6⟩ := hk6 W6 hH6
  generalize hrn : repN S fr chunk = la at *
  have hlan := hS.ok.lan
  have hcl := hS.ok.cl
  have hct12 : S.ct.length ≤ 12 := by omega
  have hML0 : (spL S.ct).length ≤ 24 := by rw [spL_len]; omega
  obtain ⟨M, hM⟩ : ∃ M, spL S.ct = M := ⟨_, rfl⟩
  have HSP : Hid ((S.ct.map plF).flatMap plN = M) := (spread_nums _).trans hM
  have hML : M.length ≤ 24 := by rw [← hM]; exact hML0
  have HLA : Hid (repN S fr chunk = la) := hrn
  have HM : Hid (spL S.ct = M) := hM
  clear hlan hcl hrn hM hML0
  go_upto_region 7 with (first
    | (refine bs_own rfl rfl [fr, la] (by simp only [List.map_toArray, List.map_cons, List.map_nil]; rfl) (isl2s _ _ _) rfl (by decide) ?_; intro W7 hN7 b7 z7; have cs7 := (hk6 W7 (ab_trans hH6 b7)).2.2.2)
    | (go_at_call 26; refine (splaces_any W7 (hS.keep (ab_trans hw (ab_trans hH6 b7)))).mono ?_; rintro e W8 ⟨v8, rfl, hO8, b8⟩; obtain ⟨q8, c8, e8⟩ := hO8.form; subst e8)
    | (go_at_call 25; refine (spread_ps _ (S.ct.map plF) W8 (er_sr hO8.er) (by rw [List.length_map]; omega)).mono ?_; rw [HSP.out]; rintro e W9 ⟨v9, rfl, hO9, b9⟩; obtain ⟨q9, c9, e9⟩ := hO9.is.form; subst e9)
    | (at_builtin; refine app_i W6 rfl rfl (l := [fr, la]) (m := M) rfl (own_keep (own_keep hN7 b8) b9) rfl hO9.is rfl (by omega) (ab_trans b7 (ab_trans b8 b9)) ?_; intro vA WA hOA hnA bA gA hatA; have hIA := own_is hOA; obtain ⟨qA, cA, eA⟩ := hIA.form; subst eA))
  have hHA := ab_trans hH6 bA
  have hEA := hE6.keep bA
  clear hN7 hO8 hO9 hOA hnA gA hatA z7 cs7
  refine wp_region_held_drew (S := fun w' => Below A.heap.size A w' ∧ Below WA.heap.size WA w') (by kernel_rfl) ⟨ab_drew hHA, ab_drew (Below.refl _ _)⟩ (fun hHeld => ?_)
  generalize WA.drew = VB at *
  refine takeH (i := 0) (some 65) rfl rfl (by kernel_rfl) (by kernel_rfl) (by kernel_rfl) (fun _ _ _ h => h) (by rfl) (fun w hSw => by (try dsimp only at hSw); go_simp; try rfl) hHeld ?_
  go_frame
  refine takeH (i := 1) (some 66) rfl rfl (by kernel_rfl) (by kernel_rfl) (by kernel_rfl) (fun _ _ _ h => h) (by rfl) (fun w hSw => by (try dsimp only at hSw); go_simp; try rfl) hHeld ?_
  go_frame
  refine takeH (i := 2) (some 67) rfl rfl (by kernel_rfl) (by kernel_rfl) (by kernel_rfl) (fun _ _ _ h => h) (by rfl) (fun w hSw => by (try dsimp only at hSw); go_simp; try rfl) hHeld ?_
  go_frame
  refine takeH (i := 3) (some 68) rfl rfl (by kernel_rfl) (by kernel_rfl) (by kernel_rfl) (fun _ _ _ h => h) (by rfl) (fun w hSw => by (try dsimp only at hSw); (have y := (hk6 _ hSw.1).2.1; go_simp; try rfl)) hHeld ?_
  go_frame
  refine takeH (i := 4) (some 69) rfl rfl (by kernel_rfl) (by kernel_rfl) (by kernel_rfl) (fun _ _ _ h => h) (by rfl) (fun w hSw => by (try dsimp only at hSw); go_simp; try rfl) hHeld ?_
  go_frame
  refine takeH (i := 5) (some 70) rfl rfl (by kernel_rfl) (by kernel_rfl) (by kernel_rfl) (fun _ _ _ h => h) (by rfl) (fun w hSw => by (try dsimp only at hSw); (have y : w.cell? ⟨_, 1, none⟩ = some (.int .i64 f) := (hX6 _ hSw.1).at rfl; go_simp; try rfl)) hHeld ?_
  go_frame
  refine takeH (i := 6) (some 71) rfl rfl (by kernel_rfl) (by kernel_rfl) (by kernel_rfl) (fun _ _ _ h => h) (by rfl) (fun w hSw => by (try dsimp only at hSw); go_simp; try rfl) hHeld ?_
  go_frame
  refine takeH (i := 7) (some 72) rfl rfl (by kernel_rfl) (by kernel_rfl) (by kernel_rfl) (fun _ _ _ h => h) (by rfl) (fun w hSw => by (try dsimp only at hSw); go_simp; try rfl) hHeld ?_
  go_frame
  refine takeH (i := 8) (some 73) rfl rfl (by kernel_rfl) (by kernel_rfl) (by kernel_rfl) (fun _ _ _ h => h) (by rfl) (fun w hSw => by (try dsimp only at hSw); go_simp; try rfl) hHeld ?_
  go_frame
  refine wpAnyH_ready (rs := [9]) (by kernel_rfl) (by simp) (AllReadyH.cons rfl (fun K hK => ?_) AllReadyH.nil)
  rw [if_pos (by rfl)]
  refine bsnW (some 74) rfl rfl 7 node f _ _ _ _ _ _ (by simp only [List.map_toArray, List.map_cons, List.map_nil]; rfl) fun WC hBC bC => ?_
  have hHC : Below A.heap.size A WC ∧ Below WA.heap.size WA WC := ⟨ab_trans hHeld.1 bC, ab_trans hHeld.2 bC⟩
  refine hK.out _ _ hHC (fun hHeld => ?_)
  clear hK K
  try go_frame
  refine takeH (i := 10) (some 4) rfl rfl (by kernel_rfl) (by kernel_rfl) (by kernel_rfl) (fun _ _ _ h => h) (by rfl) (fun w hSw => by (try dsimp only at hSw); go_simp; try rfl) hHeld ?_
  go_frame
  refine wpAnyH_done (by kernel_rfl) ?_ _
  go_wp2_with fail
  go_ret
  exact ⟨_, _, _, rfl, hBC, by rw [HLA.out, HM.out]; exact hIA.keep hHC.2, hEA.keep hHC.2, HN6.out, ab_trans hw hHC.1⟩
theorem sphandle_no {B d pb sb : Nat} {vr vh vc : Value} {S : Sm} {node chunk : Int} (f fr : Int) (rest : List Int) (os : List (Nat → Int)) (es : List (Nat → Int)) (vn vo ve : Value) (w : World) (hk : Blk w pb (sgC d node chunk sb) 51) (hS : Sq w B sb vr vh vc S) (hB : B ≤ w.heap.size)
    (h1 : Is w vn (fr :: rest)) (h2 : SR 5 k64 w vo os) (h3 : SR 76 ek w ve es) (hG : GoodN ⟨6, f, node, fr :: rest, os, es⟩) (hl : rest.length ≤ 1000) (hN : ¬ ((rest.length / 2 : Nat) : Int) = lanS S) :
    Calls Tryz.prog 8 #[tptr pb, .agg (ntC6 6 f node vn vo ve)] w fun e w' => ∃ g vn' vo', e = .returned (.slice (some ⟨g, 0, none⟩) 1 1) ∧ Blk w' g (ntC6 7 node f vn' vo' (.slice none 0 0)) 26 ∧ Is w' vn' (fr :: repN S fr chunk :: spL S.ct) ∧ ER E5 w' vo' (repL S fr chunk) ∧ Below w.heap.size w w' :=
  (sphandle_new f fr rest os es vn vo ve w hk hS hB h1 h2 h3 hG hl hN).mono (by rintro e w' ⟨g, a, b, h1, h2, h3, h4, -, h5⟩; exact ⟨g, a, b, h1, h2, h3, h4, h5⟩)
end Go.Proofs.YthmolbcnbcajdaaGreat
namespace Go.Proofs.YthmolbcnbcajdaaGreat
open Go.RowKit
set_option linter.unusedVariables false
set_option maxRecDepth 100000

set_option maxHeartbeats 1000000 in
theorem spemit_nil (t y v : Int) (w : World) : Calls Tryz.prog 5 #[.pointer none, .int .i64 t, .int .i64 y, .int .i64 v] w fun e w' => e = .returned (.tuple #[opV zOp, Err 5]) ∧ Below w.heap.size w w' := by
  obtain ⟨A, hE, hB, hw⟩ := blk1 w (opA zOp) 30
  unfold opA zOp at hE
  go_enter Tryz.func5, Tryz.ntmps5
  go_wp2_with (refine st_op rfl rfl (k1 := zOp) hB rfl rfl ?_; intro W5 hB5 C5)
  exact bodyPost_ret (results_c2 rfl _ _ _ 30 _ (0, 0) _ (Err 5) rfl rfl hB5 Tryz.underlying30 rfl (info_op5 zOp)) rfl ⟨rfl, ab_chg hw C5 (Nat.le_refl _)⟩
set_option maxHeartbeats 1000000 in
theorem spmark_nil (t : Int) (w : World) : Calls Tryz.prog 6 #[.pointer none, .int .i64 t] w fun e w' => e = .returned (.tuple #[opV zOp, Err 5]) ∧ Below w.heap.size w w' := by
  obtain ⟨A, hE, hB, hw⟩ := blk1 w (opA zOp) 30
  unfold opA zOp at hE
  go_enter Tryz.func6, Tryz.ntmps6
  go_wp2_with (refine st_op rfl rfl (k1 := zOp) hB rfl rfl ?_; intro W5 hB5 C5)
  exact bodyPost_ret (results_c2 rfl _ _ _ 30 _ (0, 0) _ (Err 5) rfl rfl hB5 Tryz.underlying30 rfl (info_op5 zOp)) rfl ⟨rfl, ab_chg hw C5 (Nat.le_refl _)⟩
set_option maxHeartbeats 1000000 in
theorem sphandle_nil (k f t : Int) (q1 q2 q3 : Option Addr) (n1 n2 n3 c1 c2 c3 : Nat) (w : World) :
    Calls Tryz.prog 8 #[.pointer none, .agg #[.int .i64 k, .int .i64 f, .int .i64 t, .slice q1 n1 c1, .slice q2 n2 c2, .slice q3 n3 c3]] w fun e w' => e = .returned (.slice none 0 0) ∧ Below w.heap.size w w' := by
  obtain ⟨A, hAe, hA, vA⟩ := blk1 w #[.int .i64 k, .int .i64 f, .int .i64 t, .slice q1 n1 c1, .slice q2 n2 c2, .slice q3 n3 c3] 26
  go_enter Tryz.func8, Tryz.ntmps8
  go_upto_region 1 with fail
  clear hAe
  have HZ := cls_some A
  refine wp_region_below (by kernel_rfl) (by kernel_rfl) ?_
  repeat (go_big_quiet_step (fail))
  refine wpQuiet_nil ?_
  rintro _ ⟨y, rfl⟩
  obtain ⟨V4, b4⟩ := y
  dsimp only
  clear HZ
  go_wp2_with fail
  go_ret
  exact ⟨rfl, ab_trans vA b4⟩
theorem spne5 (w : World) : (binOp .neq 32 (Err 5) .nilIface).run Tryz.prog w = .ok (.bool true) w := by kernel_rfl
set_option maxHeartbeats 1000000 in
theorem spopen_nil (node chunk : Int) (vl : Value) (res : List Int) (sh hd : Int) (w : World) (h0 : 0 ≤ node) (h9 : node ≤ 999) (hc1 : 1 ≤ chunk) (hc2 : chunk ≤ 16)
    (hv : Is w vl res) (hr : ∀ r ∈ res, r ≤ 9223372036854775807) (hg : goodF res sh hd = true) :
    Calls Tryz.prog 7 #[.int .i64 node, vl, .int .i64 sh, .int .i64 hd, .int .i64 chunk, .pointer none] w fun e w' => e = .returned (.tuple #[.pointer none, Err 5]) ∧ Below w.heap.size w w' := by
  have hn := snew_ok vl res sh hd w hv hr hg
  have w1 : decide (0 ≤ node ∧ node ≤ 999) = true := decide_eq_true ⟨h0, h9⟩
  have w2 : decide (1 ≤ chunk ∧ chunk ≤ 16) = true := decide_eq_true ⟨hc1, hc2⟩
  obtain ⟨ql, cl, el⟩ := hv.form
  subst el
  have e2 := spn0
  have e5 := spne5
  clear hv hr hg
  go_enter Tryz.func7, Tryz.ntmps7
  go_upto_region 4 with (first
    | (go_at_call 17; refine hn.mono ?_; rintro e W1 ⟨sb, vr, vh, vc, rfl, h1, b1⟩)
    | (go_at_call 18; refine (spwithin_any _ _ _ _).mono ?_; rintro e W1' ⟨rfl, hW1'⟩; subst W1'; first | rw [w1] | rw [w2]))
  clear hn w1 w2
  go_wp2_with (go_at_call 19; refine (dopen_nil _).mono ?_; rintro e X ⟨rfl, hX⟩; subst X)
  go_ret2
  exact ⟨rfl, b1⟩
end Go.Proofs.YthmolbcnbcajdaaGreat
