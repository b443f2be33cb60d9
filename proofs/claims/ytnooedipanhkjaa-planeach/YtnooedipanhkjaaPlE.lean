/-
  Each node of a good plan has just one role, and Node of Role is the node: estuarylaw19.PlanEach returns true for every input; no condition.
-/
import Derived.Test.YtnooedipanhkjaaPnH
import Derived.Test.YtnooedipanhkjaaFrx
import Derived.Test.YtnooedipanhkjaaFrL
import Derived.Test.YtnooedipanhkjaaMixed
import Derived.ProofKit
import Derived.OpenShut
import Derived.ChangeOld
import Derived.Below
import Derived.Lib.SmallJoins
import Derived.Maps.OwnSet
import Derived.Maps.OwnOps
import Derived.Maps.RangeWalk
namespace Go.Proofs.Ytnooedipanhkjaa.planEach
open Go.ChangeShapes Go.WideShapes Go.ChangeAt Go.RowKit Go.Joins Go.Maps
set_option linter.unusedVariables false
set_option maxRecDepth 100000

/-! Who is what, by numbers. -/
def cN (a c r : Nat) : Nat := if r = 1 then a else if r = 2 then 2 else if r = 3 then c else if r = 4 then 1 else 0
def fN (a c r : Nat) : Nat := if r ≤ 1 then 0 else if r = 2 then a else if r = 3 then a + 2 else if r = 4 then a + 2 + c else a + 2 + c + 1
theorem ea_sp {a c r : Nat} (r1 : 1 ≤ r) (r4 : r ≤ 4) : spF (a : Int) 2 (c : Int) 1 (r : Int) = (((fN a c r : Nat) : Int), ((cN a c r : Nat) : Int)) := by
  have : r = 1 ∨ r = 2 ∨ r = 3 ∨ r = 4 := by omega
  rcases this with rfl | rfl | rfl | rfl <;> simp [spF, fN, cN]
theorem ea_next {a c r : Nat} (r1 : 1 ≤ r) (r4 : r ≤ 4) : fN a c (r + 1) = fN a c r + cN a c r := by
  have : r = 1 ∨ r = 2 ∨ r = 3 ∨ r = 4 := by omega
  rcases this with rfl | rfl | rfl | rfl <;> simp [fN, cN]
theorem ea_rl {a c r k : Nat} (r1 : 1 ≤ r) (r4 : r ≤ 4) (hk : k < cN a c r) : rlF (a : Int) 2 (c : Int) 1 ((fN a c r + k : Nat) : Int) = ((r : Int), (k : Int), true) := by
  have : r = 1 ∨ r = 2 ∨ r = 3 ∨ r = 4 := by omega
  rcases this with rfl | rfl | rfl | rfl
  · have e1 : cN a c 1 = a := rfl
    have e2 : fN a c 1 = 0 := rfl
    rw [e1] at hk; rw [e2]
    unfold rlF
    rw [if_neg (by omega), if_pos (by omega)]
    simp
  · have e1 : cN a c 2 = 2 := rfl
    have e2 : fN a c 2 = a := rfl
    rw [e1] at hk; rw [e2]
    unfold rlF
    rw [if_neg (by omega), if_neg (by omega), if_pos (by omega)]
    exact Prod.ext rfl (Prod.ext (by show ((a + k : Nat) : Int) - (a : Int) = (k : Int); omega) rfl)
  · have e1 : cN a c 3 = c := rfl
    have e2 : fN a c 3 = a + 2 := rfl
    rw [e1] at hk; rw [e2]
    unfold rlF
    rw [if_neg (by omega), if_neg (by omega), if_neg (by omega), if_pos (by omega)]
    exact Prod.ext rfl (Prod.ext (by show ((a + 2 + k : Nat) : Int) - (a : Int) - 2 = (k : Int); omega) rfl)
  · have e1 : cN a c 4 = 1 := rfl
    have e2 : fN a c 4 = a + 2 + c := rfl
    rw [e1] at hk; rw [e2]
    unfold rlF
    rw [if_neg (by omega), if_neg (by omega), if_neg (by omega), if_neg (by omega), if_pos (by omega)]
    exact Prod.ext rfl (Prod.ext (by show ((a + 2 + c + k : Nat) : Int) - (a : Int) - 2 - (c : Int) = (k : Int); omega) rfl)
theorem ea_nd {f n k : Nat} (hk : k < n) : ndF ((f : Int), (n : Int)) (k : Int) = (((f + k : Nat) : Int), true) := by
  unfold ndF
  rw [if_pos ⟨by omega, by show (k : Int) < (n : Int); omega⟩]
  exact Prod.ext (by show (f : Int) + (k : Int) = ((f + k : Nat) : Int); omega) rfl
theorem ea_bd {a c r : Nat} (ha : a ≤ 4) (hc : c ≤ 5) (r1 : 1 ≤ r) : fN a c r ≤ a + 2 + c + 1 ∧ cN a c r ≤ 5 ∧ (r ≤ 4 → fN a c r + cN a c r ≤ a + 2 + c + 1) := by
  unfold fN cN
  repeat' split
  all_goals omega

/-! A map of the call's own that counts each of 0 .. m - 1 once. -/
theorem law : Keyed Try.prog 3 := int_keyed Try.underlying3
theorem zeroE (w : World) : (zeroValue 3).run Try.prog w = .ok (.int .i64 0) w := by kernel_rfl
def One (W : World) (b m : Nat) : Prop := ∃ D : DataW Unit, W.ownsMap Try.prog 3 (plainElem Try.prog 3) b m D ∧ (∀ x : Int, (m : Int) ≤ x → Maps.has D (.int .i64 x) = false) ∧ Maps.size D = m ∧ (∀ x : Int, Maps.has D (.int .i64 x) = true → D.atKey (.int .i64 x) (.lit (.int .i64 0)) = .lit (.int .i64 1))
theorem One.lt {W : World} {b m : Nat} (h : One W b m) : b < W.heap.size := by obtain ⟨D, h1, -⟩ := h; exact h1.lt
theorem One.keep {W W' : World} {b m : Nat} (h : One W b m) (hb : Below W.heap.size W W') : One W' b m := by
  obtain ⟨D, h1, h2, h3, h4⟩ := h
  refine ⟨D, ?_, h2, h3, h4⟩
  have hlt := h1.lt
  obtain ⟨es, clock, hbk, F, hs, hD⟩ := h1
  exact ⟨es, clock, (hb.block b hlt).trans hbk, F, hs, hD⟩
theorem One.noI {W : World} {b m : Nat} (h : One W b m) : NoI (fun k => k = b) W := by
  obtain ⟨D, ⟨es, clock, hbk, F, hs, hD⟩, -⟩ := h
  rintro k rfl ⟨cur, fr, e⟩
  rw [hbk] at e
  cases e
section
variable {ops : Array Oper} {rest : List Oper} {o : Oper} {a : Act} {w : World} {Q : Exit → Act → World → Prop}
theorem lookO (hw : Region.wanted o (yielded ops a.tmps) = true) {m x : Operand} (hop : o.op = Op.lookup 39 m x false) {b n : Nat} (hS : One w b n) (hm : a.eval m = .map (some b)) (hx : a.eval x = .int .i64 (n : Int)) (k1 : n ≤ 1000)
    (h : wpList Try.prog ops Q rest (a.put o.dst (.int .i64 0)) w) : wpList Try.prog ops Q (o :: rest) a w := by
  obtain ⟨D, h1, h2, h3, -⟩ := hS
  obtain ⟨c, hrun, hat, -⟩ := h1.lookup_int law Try.underlying39 Try.underlying3 (zeroE _) (keyOf_int_mk (a := (n : Int)) Try.underlying3 (WalkArith.wf_i64 (by omega)))
  have hc : c = 0 := by
    rw [atKey_of_not_has (h2 n (Int.le_refl _))] at hat
    simpa using hat.symm
  subst hc
  refine valS hw _ ?_ h
  unfold execOp
  simp only [hop, hm, hx, Sem.run_bind, hrun, Result.andThen_ok, Sem.run_pure]
theorem putO (hg : o.guard = none) {m x v : Operand} (hop : o.op = Op.mapUpdate 39 m x v) {b n : Nat} (hS : One w b n) (hm : a.eval m = .map (some b)) (hx : a.eval x = .int .i64 (n : Int)) (hv : a.eval v = .int .i64 1) (k1 : n ≤ 1000)
    {A : World} (hA : Below A.heap.size A w) (hAb : A.heap.size ≤ b)
    (h : ∀ w', One w' b (n + 1) → Below A.heap.size A w' → Frm (fun k => k = b) w w' → wpList Try.prog ops Q rest (a.put o.dst undef) w') : wpList Try.prog ops Q (o :: rest) a w := by
  obtain ⟨D, h1, h2, h3, h4⟩ := hS
  refine wpList_mapUpdate_own _ hg m x v 39 hop 3 3 law Try.underlying39 _ b n D hm h1 (by unfold maxLen; omega) _ _ (.int .i64 (n : Int)) hx hv (keyOf_int_mk Try.underlying3 (WalkArith.wf_i64 (by omega))) _ [] (plainElem_int (H := Unit) (a := 1) Try.underlying3 (by decide)) ?_
  intro w' ho hg
  refine h w' ⟨_, ho, fun x hx => ?_, ?_, fun x hx => ?_⟩ (hA.grown hg hA.size (fun r hr => by cases hr; exact hAb)) (frm_grown hg rfl)
  · rw [has_put_other (by intro e; cases e; omega)]
    exact h2 x (by omega)
  · rw [size_put (h1.tidy law), h2 _ (Int.le_refl _)]
    simp [h3]
  · by_cases c : x = (n : Int)
    · subst c
      rw [atKey_put_same h1.isMap (by trivial)]
    · rw [has_put_other (by intro e; cases e; exact c rfl)] at hx
      rw [atKey_put_other (by intro e; cases e; exact c rfl)]
      exact h4 x hx
end

set_option maxHeartbeats 8000000 in
theorem each_any (p : Pn) (W : World) (hv : Is W p.v p.l) :
    Calls Try.prog 5 #[pnV p] W fun e w' => e = .returned (.bool true) ∧ Below W.heap.size W w' := by
  have hmm := @run_makeMap Try.prog
  have HC := fun (V : World) (hV : Below W.heap.size W V) => pcheck_any p V (hv.keep hV)
  have HNo := fun (V : World) (hV : Below W.heap.size W V) => pnodes_any p V (hv.keep hV)
  have HOf := fun (r : Int) (V : World) (hV : Below W.heap.size W V) => pof_any p r V (hv.keep hV)
  have HRl := fun (n : Int) (V : World) (hV : Below W.heap.size W V) => prole_any p n V (hv.keep hV)
  have HNd := fun (r i : Int) (V : World) (hV : Below W.heap.size W V) => pnode_any p r i V (hv.keep hV)
  have HLn := of_len p
  have HAt := of_at p
  obtain ⟨A, hAe, hX, hw⟩ := blk1 W (pnC p) 24
  have x1 : A.cell? ⟨W.heap.size, 1, none⟩ = some (.int .i64 p.ke) := hX.at rfl
  cases hg : gdP p
  · obtain ⟨n1, n2, n3, n4⟩ := n_no hg
    rw [n1, n2, n3, n4] at HNo HLn
    have hl4 : (ofL p 4).length = 0 := by have := HLn 4; simpa [spF] using this
    simp only [hg, Bool.false_eq_true, if_false] at HC
    clear n1 n2 n3 n4 HRl HNd HAt HLn x1 hmm
    go_enter Try.func5, Try.ntmps5
    go_upto_region 1 with fail
    clear hAe
    go_upto_region 3 with (go_at_call 8; refine (alive19_any _).mono ?_; rintro e W1 ⟨rfl, b1⟩)
    have hX1 := hX.keep b1
    have hw1 := ab_trans hw b1
    clear hX hw b1
    go_wp2_with (first
      | (refine lw_pn (p := p) rfl rfl rfl hX1 ?_)
      | (have mk := b2; clear mk; refine lw_pn (p := p) rfl rfl rfl (hX1.keep b2) ?_)
      | (have mk := b3; clear mk; refine lw_pn (p := p) rfl rfl rfl (hX1.keep (ab_trans b2 b3)) ?_)
      | (refine valS rfl _ (ne19_err _) ?_)
      | (go_at_call 9; refine (HC _ hw1).mono ?_; rintro e W2 ⟨rfl, b2⟩)
      | (go_at_call 12; refine (HNo _ (ab_trans hw1 b2)).mono ?_; rintro e W3 ⟨rfl, b3⟩)
      | (go_at_call 16; refine (HOf 4 _ (ab_trans hw1 (ab_trans b2 b3))).mono ?_; rintro e W4 ⟨v4, rfl, hI4, b4⟩; obtain ⟨q4, c4, e4⟩ := hI4.is.form; rw [hl4] at e4; subst e4))
    go_ret
    exact ⟨rfl, ab_trans hw1 (ab_trans b2 (ab_trans b3 b4))⟩
  · obtain ⟨hso, hke, -, -⟩ := gd_bd hg
    obtain ⟨n1, n2, n3, n4⟩ := n_yes hg
    rw [n1, n2, n3, n4] at HNo
    simp only [n1, n2, n3, n4] at HRl HNd HLn HAt
    simp only [hg, if_true] at HC
    obtain ⟨a, ha⟩ : ∃ a : Nat, p.so = (a : Int) := ⟨p.so.toNat, by omega⟩
    obtain ⟨c, hc⟩ : ∃ c : Nat, p.ke = (c : Int) := ⟨p.ke.toNat, by omega⟩
    rw [hc] at x1
    rw [ha, hc] at HNo HLn HAt HRl HNd
    have ha4 : a ≤ 4 := by omega
    have hc5 : c ≤ 5 := by omega
    have HL2 : ∀ r : Nat, 1 ≤ r → r ≤ 4 → (ofL p (r : Int)).length = cN a c r := fun r r1 r4 => by
      have := HLn (r : Int)
      rw [ea_sp r1 r4] at this
      exact Int.ofNat.inj this
    have HA2 : ∀ r : Nat, 1 ≤ r → r ≤ 4 → ∀ k, k < cN a c r → (ofL p (r : Int))[k]? = some ((fN a c r + k : Nat) : Int) := fun r r1 r4 k hk => by
      have := HAt (r : Int) k (by rw [HL2 r r1 r4]; exact hk)
      rw [ea_sp r1 r4] at this
      rw [this]; simp
    have HR2 : ∀ r : Nat, 1 ≤ r → r ≤ 4 → ∀ k, k < cN a c r → ∀ V : World, Below W.heap.size W V → Calls Try.prog 17 #[pnV p, .int .i64 ((fN a c r + k : Nat) : Int)] V fun e w' => e = .returned (.tuple #[.int .i64 (r : Int), .int .i64 (k : Int), .bool true]) ∧ Below V.heap.size V w' := fun r r1 r4 k hk V hV => by
      have hb := (ea_bd (r := r) ha4 hc5 r1).2.2 r4
      have := HRl ((fN a c r + k : Nat) : Int) V hV (by omega) (by omega)
      rw [ea_rl r1 r4 hk] at this
      exact this
    have HD2 : ∀ r : Nat, 1 ≤ r → r ≤ 4 → ∀ k, k < cN a c r → ∀ V : World, Below W.heap.size W V → Calls Try.prog 18 #[pnV p, .int .i64 (r : Int), .int .i64 (k : Int)] V fun e w' => e = .returned (.tuple #[.int .i64 ((fN a c r + k : Nat) : Int), .bool true]) ∧ Below V.heap.size V w' := fun r r1 r4 k hk V hV => by
      have := HNd (r : Int) (k : Int) V hV
      rw [ea_sp r1 r4, ea_nd hk] at this
      exact this
    clear n1 n2 n3 n4 HRl HNd HLn HAt hso hke ha hc
    obtain ⟨N, hN⟩ : ∃ N : Nat, N = a + 2 + c + 1 := ⟨_, rfl⟩
    have hNe : (a : Int) + 2 + (c : Int) + 1 = (N : Int) := by omega
    rw [hNe] at HNo
    have hN12 : N ≤ 12 := by omega
    have hf5 : fN a c 5 = N := by rw [hN]; rfl
    have HB : Hid (∀ r, 1 ≤ r → r ≤ 4 → fN a c r + cN a c r ≤ N ∧ cN a c r ≤ 5) := fun r r1 r4 => ⟨by rw [hN]; exact (ea_bd ha4 hc5 r1).2.2 r4, (ea_bd ha4 hc5 r1).2.1⟩
    have HNx : Hid (∀ r, 1 ≤ r → r ≤ 4 → fN a c (r + 1) = fN a c r + cN a c r) := fun r r1 r4 => ea_next r1 r4
    have hO2 : (ofL p 2).length = 2 := HL2 2 (by omega) (by omega)
    have hO3 : (ofL p 3).length = c := HL2 3 (by omega) (by omega)
    clear hN hNe
    go_enter Try.func5, Try.ntmps5
    go_upto_region 1 with fail
    clear hAe
    go_upto_region 3 with (go_at_call 8; refine (alive19_any _).mono ?_; rintro e W1 ⟨rfl, b1⟩)
    have hX1 := hX.keep b1
    have hw1 := ab_trans hw b1
    have x1 := keep_cell b1 x1 hX.lt
    clear hX hw b1
    go_upto_region 5 with (first
      | (refine lw_pn (p := p) rfl rfl rfl hX1 ?_)
      | (refine valS rfl _ (ne19_nil _) ?_)
      | (go_at_call 9; refine (HC _ hw1).mono ?_; rintro e W2 ⟨rfl, b2⟩))
    have hX2 := hX1.keep b2
    have hw2 := ab_trans hw1 b2
    have x1W := keep_cell b2 x1 hX1.lt
    clear hX1 hw1 b2 HC x1
    go_wp2_with fail
    go_loopw [4] (fun rv wr => ∃ r : Nat, 1 ≤ r ∧ r ≤ 5 ∧ rv = .int .i64 (r : Int) ∧ One wr W2.heap.size (fN a c r) ∧ Below W2.heap.size W2 wr) (fun rv _ => 5 - (intOf rv).toNat)
    case atStart => exact ⟨1, by omega, by omega, rfl, ⟨.map [], World.ownsMap_made _ _ _ _, fun _ _ => rfl, rfl, fun x hx => by cases hx⟩, (Below.refl _ _).alloc (Nat.le_refl _) _⟩
    case round =>
      obtain ⟨r, r1, r5, rfl, hS, hb⟩ := hrel
      by_cases cr : r = 5
      · subst cr
        rw [hf5] at hS
        obtain ⟨D, hown, -, hsz, hat1⟩ := hS
        have hXr := hX2.keep hb
        have hwr := ab_trans hw2 hb
        have hNN : ((N : Int) != (N : Int)) = false := by simp
        clear HB HNx HL2 HA2 HR2 HD2
        go_upto_region 20 with (first
          | (at_len; refine wpList_len_own _ rfl _ 39 rfl 3 3 Try.underlying39 _ _ _ D rfl hown ?_; rw [hsz])
          | (refine lw_pn (p := p) rfl rfl rfl hXr ?_)
          | (go_at_call 12; refine (HNo _ hwr).mono ?_; rintro e W3 ⟨rfl, b3⟩))
        have hX3 := hXr.keep b3
        have hw3 := ab_trans hwr b3
        have hb3 := ab_trans hb b3
        have hown3 : W3.ownsMap Try.prog 3 (plainElem Try.prog 3) W2.heap.size N D := by
          have hlt := hown.lt
          obtain ⟨es, clock, hbk, F, hs, hD⟩ := hown
          exact ⟨es, clock, (b3.block _ hlt).trans hbk, F, hs, hD⟩
        clear hXr hwr hb b3 hown hsz
        go_wp2_with (at_range; refine wpList_range_own _ rfl _ 39 rfl 3 3 law Try.underlying39 _ _ _ D rfl hown3 ?_; intro w0 hrg0 hg0 hs0)
        go_frame
        have hb0 : Below W2.heap.size W2 w0 := hb3.grown hg0 hb3.size (fun r hr => by cases hr)
        have hr3 : W2.heap.size ≤ W3.heap.size := hb3.size
        go_loopw [13] (fun _ wr => ∃ left cnt, wr.ranges Try.prog 3 (plainElem Try.prog 3) W2.heap.size W3.heap.size N D left cnt ∧ (∀ x : Int, left (.int .i64 x) = true → Maps.has D (.int .i64 x) = true) ∧ Below W2.heap.size W2 wr) (fun _ wr => wr.rangeLeft W2.heap.size W3.heap.size)
        case atStart => exact ⟨_, _, hrg0, fun x h => h, hb0⟩
        case round =>
          clear hrg0 hb0 hg0 hs0 hown3 hb3 hX3
          obtain ⟨left, cnt, hrg, hle, hb⟩ := hrel
          have hXr := hX2.keep hb
          have hwr := ab_trans hw2 hb
          have x1 : wr.cell? ⟨W.heap.size, 1, none⟩ = some (.int .i64 (c : Int)) := keep_cell hb x1W hX2.lt
          go_wp2_with (at_next; refine wpList_next_ranges_ii _ rfl _ rfl 3 3 .i64 .i64 law Try.underlying3 Try.underlying3 W2.heap.size W3.heap.size N _ _ _ rfl hrg ?_ ?_)
          · intro _ _
            clear hrg hle
            go_upto_region 25 with fail
            refine wp_region_held_drew (S := fun w' => Below wr.heap.size wr w') (by kernel_rfl) (ab_drew (Below.refl _ _)) (fun hHeld => ?_)
            refine takeH (i := 0) (some 99) rfl rfl (by kernel_rfl) (by kernel_rfl) (by kernel_rfl) (fun _ _ _ h => h) (by rfl) (fun w hSw => by (try dsimp only at hSw); exact ld_pnr rfl rfl (hXr.keep hSw)) hHeld ?_
            go_frame
            refine wpAnyH_ready (rs := [1]) (by kernel_rfl) (by simp) (AllReadyH.cons rfl (fun K hK => ?_) AllReadyH.nil)
            go_simp
            refine (HOf 2 _ (ab_trans hwr hHeld)).mono ?_
            rintro e V1 ⟨v1, rfl, hI1, c1⟩
            show K _ _
            refine hK.out _ _ (ab_trans hHeld c1) (fun hHeld => ?_)
            clear hK K
            obtain ⟨q1, k1, e1⟩ := hI1.is.form
            rw [hO2] at e1
            subst e1
            refine takeH (i := 2) (some 101) rfl rfl (by kernel_rfl) (by kernel_rfl) (by kernel_rfl) (fun _ _ _ h => h) (by rfl) (fun w hSw => by (try dsimp only at hSw); go_simp; try rfl) hHeld ?_
            go_frame
            refine takeH (i := 3) (some 102) rfl rfl (by kernel_rfl) (by kernel_rfl) (by kernel_rfl) (fun _ _ _ h => h) (by rfl) (fun w hSw => by (try dsimp only at hSw); go_simp; try rfl) hHeld ?_
            go_frame
            refine takeH (i := 4) (some 103) rfl rfl (by kernel_rfl) (by kernel_rfl) (by kernel_rfl) (fun _ _ _ h => h) (by rfl) (fun w hSw => by (try dsimp only at hSw); go_simp; try rfl) hHeld ?_
            go_frame
            refine takeH (i := 5) (some 104) rfl rfl (by kernel_rfl) (by kernel_rfl) (by kernel_rfl) (fun _ _ _ h => h) (by rfl) (fun w hSw => by (try dsimp only at hSw); exact ld_pnr rfl rfl (hXr.keep hSw)) hHeld ?_
            go_frame
            refine takeH (i := 8) (some 107) rfl rfl (by kernel_rfl) (by kernel_rfl) (by kernel_rfl) (fun _ _ _ h => h) (by rfl) (fun w hSw => by (try dsimp only at hSw); go_simp; try rfl) hHeld ?_
            go_frame
            refine takeH (i := 9) (some 108) rfl rfl (by kernel_rfl) (by kernel_rfl) (by kernel_rfl) (fun _ _ _ h => h) (by rfl) (fun w hSw => by (try dsimp only at hSw); (have y1 := keep_cell hSw x1 hXr.lt; go_simp; try rfl)) hHeld ?_
            go_frame
            refine wpAnyH_ready (rs := [6]) (by kernel_rfl) (by simp) (AllReadyH.cons rfl (fun K hK => ?_) AllReadyH.nil)
            go_simp
            refine (HOf 3 _ (ab_trans hwr hHeld)).mono ?_
            rintro e V2 ⟨v2, rfl, hI2, c2⟩
            show K _ _
            refine hK.out _ _ (ab_trans hHeld c2) (fun hHeld => ?_)
            clear hK K
            obtain ⟨q2, k2, e2⟩ := hI2.is.form
            rw [hO3] at e2
            subst e2
            refine takeH (i := 7) (some 106) rfl rfl (by kernel_rfl) (by kernel_rfl) (by kernel_rfl) (fun _ _ _ h => h) (by rfl) (fun w hSw => by (try dsimp only at hSw); go_simp; try rfl) hHeld ?_
            go_frame
            refine takeH (i := 10) (some 109) rfl rfl (by kernel_rfl) (by kernel_rfl) (by kernel_rfl) (fun _ _ _ h => h) (by rfl) (fun w hSw => by (try dsimp only at hSw); go_simp; try rfl) hHeld ?_
            go_frame
            refine takeH (i := 11) (some 110) rfl rfl (by kernel_rfl) (by kernel_rfl) (by kernel_rfl) (fun _ _ _ h => h) (by rfl) (fun w hSw => by (try dsimp only at hSw); go_simp; try rfl) hHeld ?_
            go_frame
            refine takeH (i := 12) (some 2) rfl rfl (by kernel_rfl) (by kernel_rfl) (by kernel_rfl) (fun _ _ _ h => h) (by rfl) (fun w hSw => by (try dsimp only at hSw); go_simp; try rfl) hHeld ?_
            go_frame
            refine wpAnyH_done (by kernel_rfl) ?_ _
            have hwE := ab_trans hwr hHeld
            go_wp2_with fail
            go_ret
            exact ⟨rfl, hwE⟩
          · intro x v w1 cnt1 hwx hwc hlx hat hrg1 hlt hg1 hs1 hen
            have hv1 : v = 1 := by
              have h1 := hat1 x (hle x hlx)
              rw [hat] at h1
              injection h1 with h1
              injection h1
            subst hv1
            have HL : Hid (∀ y : Int, (left (.int .i64 y) && !(Lit.int .i64 y).sameKey (.int .i64 x)) = true → Maps.has D (.int .i64 y) = true) := fun y hy => hle y (by simp only [Bool.and_eq_true] at hy; exact hy.1)
            have HB1 : Hid (Below W2.heap.size W2 w1) := hb.grown hg1 hb.size (fun r hr => by cases hr; exact hr3)
            have HM : Hid (w1.rangeLeft W2.heap.size W3.heap.size < wr.rangeLeft W2.heap.size W3.heap.size) := by show _ < _; rw [hrg1.left_eq, hrg.left_eq]; exact hlt
            have HRg : Hid (w1.ranges Try.prog 3 (plainElem Try.prog 3) W2.heap.size W3.heap.size N D (fun z => left z && !z.sameKey (.int .i64 x)) cnt1) := hrg1
            clear hrg hrg1 hg1 hs1 hlt hle hat hlx hXr hwr hb x1
            go_wp2_with fail
            go_roundw
            case rel => exact ⟨_, _, HRg.out, HL.out, HB1.out⟩
            case measure => exact HM.out
      · have r4 : r ≤ 4 := by omega
        obtain ⟨hfb, hc5b⟩ := HB.out r r1 r4
        have hnx := HNx.out r r1 r4
        have hol := HL2 r r1 r4
        have hat := HA2 r r1 r4
        have hrl := HR2 r r1 r4
        have hnd := HD2 r r1 r4
        have HE : Hid (fN a c (r + 1) = fN a c r + cN a c r) := hnx
        have hXr := hX2.keep hb
        have hwr := ab_trans hw2 hb
        clear HB HNx HL2 HA2 HR2 HD2 hnx hO2 hO3
        generalize hf : fN a c r = f at *
        generalize hn : cN a c r = n at *
        clear hf hn
        have hr5 : (r : Int) ≤ 4 := by omega
        go_wp2_with (first
          | (refine lw_pn (p := p) rfl rfl rfl hXr ?_)
          | (go_at_call 16; refine (HOf (r : Int) _ hwr).mono ?_; rintro e W3 ⟨v3, rfl, hI3, b3⟩; obtain ⟨q3, c3, e3⟩ := hI3.is.form; rw [hol] at e3; subst e3))
        have hb3 := ab_trans hb b3
        have hS3 := hS.keep b3
        generalize ofL p (r : Int) = L at *
        clear hXr hwr hb hS b3
        generalize wr.heap.size = bx at *
        go_loopw [37] (fun kv wr => ∃ k : Nat, k ≤ n ∧ kv = .int .i64 (k : Int) ∧ One wr W2.heap.size (f + k) ∧ Io wr bx (.slice q3 n c3) L ∧ Below W2.heap.size W2 wr) (fun kv _ => n - (intOf kv).toNat)
        case atStart => exact ⟨0, by omega, rfl, hS3, hI3, hb3⟩
        case round =>
          clear hb3 hS3 hI3
          obtain ⟨k, hk, rfl, hS, hI, hb⟩ := hrel
          by_cases ck : k = n
          · subst ck
            rw [← HE.out] at hS
            clear hI hat hrl hnd hol
            go_wp2_with fail
            go_roundw
            case rel => exact ⟨r + 1, by omega, by omega, by go_num, hS, hb⟩
            case measure => simp [intOf]; omega
          · have hki : (k : Int) < (n : Int) := by omega
            obtain ⟨g, off, eq3, hg3, hr3⟩ := hI.is.at (by omega)
            have y0 := hr3 k _ (hat k (by omega))
            have HR := hrl k (by omega)
            have HD := hnd k (by omega)
            obtain ⟨m, hm⟩ : ∃ m, m = f + k := ⟨_, rfl⟩
            have hm1 : f + (k + 1) = m + 1 := by omega
            rw [← hm] at y0 HR HD hS
            have hmN : (m : Int) < (N : Int) := by omega
            have hm12 : m ≤ 12 := by omega
            have HI : Hid (Io wr bx (.slice q3 n c3) L) := hI
            have HNOI := hS.noI
            subst eq3
            clear hr3 hat hrl hnd hol hI
            have HK1 : Hid (f + (k + 1) = m + 1) := hm1
            clear hm hm1
            go_upto_region 13 with (first
              | (refine lookO rfl rfl hS rfl rfl (by omega) ?_)
              | (refine putO rfl rfl hS rfl rfl rfl (by omega) (A := W2) hb (Nat.le_refl _) ?_; intro V hSV hbV hfV; go_frame))
            have HIV : Hid (Io V bx (.slice (some ⟨g, off, none⟩) n c3) L) := HI.out.frm hfV HNOI
            have hXV := hX2.keep hbV
            have hwV := ab_trans hw2 hbV
            clear HI HNOI hfV hS hb y0
            have e1 : ((r : Int) != (r : Int)) = false := by simp
            have e2 : ((m : Int) != (m : Int)) = false := by simp
            go_upto_region 14 with (first
              | (refine lw_pn (p := p) rfl rfl rfl hXV ?_)
              | (go_at_call 17; refine (HR _ hwV).mono ?_; rintro e V1 ⟨rfl, d1⟩))
            have hXV1 := hXV.keep d1
            have hwV1 := ab_trans hwV d1
            go_upto_region 15 with (first
              | (refine lw_pn (p := p) rfl rfl rfl hXV1 ?_)
              | (go_at_call 18; refine (HD _ hwV1).mono ?_; rintro e V2 ⟨rfl, d2⟩))
            have hXV2 := hXV1.keep d2
            have hwV2 := ab_trans hwV1 d2
            clear HR HD hXV hXV1 hwV hwV1
            go_wp2_with (first
              | (refine lw_pn (p := p) rfl rfl rfl hXV2 ?_)
              | (go_at_call 12; refine (HNo _ hwV2).mono ?_; rintro e V3 ⟨rfl, d3⟩))
            have d := ab_trans d1 (ab_trans d2 d3)
            go_roundw
            case rel => exact ⟨k + 1, by omega, by go_num, by rw [HK1.out]; exact hSV.keep d, HIV.out.keep d, ab_trans hbV d⟩
            case measure => simp [intOf]; omega
theorem walk {W : World} (so : Int) (hso : -9223372036854775808 ≤ so ∧ so ≤ 9223372036854775807) (ke : Int) (hke : -9223372036854775808 ≤ ke ∧ ke ≤ 9223372036854775807) (v : Value) (l : List Int) (hv : Is W v l) (hl : In64 l) (sh : Int) (hsh : -9223372036854775808 ≤ sh ∧ sh ≤ 9223372036854775807) (ho : Int) (hho : -9223372036854775808 ≤ ho ∧ ho ≤ 9223372036854775807) (ce : Int) (hce : -9223372036854775808 ≤ ce ∧ ce ≤ 9223372036854775807) (ba : Int) (hba : -9223372036854775808 ≤ ba ∧ ba ≤ 9223372036854775807) (le : Int) (hle : -9223372036854775808 ≤ le ∧ le ≤ 9223372036854775807) :
    Calls Try.prog 5 #[.agg #[.int .i64 so, .int .i64 ke, v, .int .i64 sh, .int .i64 ho, .int .i64 ce, .int .i64 ba, .int .i64 le]] W fun e w' => e = .returned (.bool true) ∧ Below W.heap.size W w' := each_any ⟨so, ke, v, l, sh, ho, ce, ba, le⟩ W hv
theorem own : ownKnob Try.prog.godebug = none := by kernel_rfl
theorem laidOut : laidOutB Try.prog = true := by kernel_rfl

set_option maxRecDepth 100000 in
theorem lifted (os : Os) (started : os.Started) (H : Type) (enc : TypeId × Value → H) :
    ReturnsInHanded {} Try.checked os 5 .any (Rows.planEachSpec.pre6 enc Try.prog Try.f5 Rows.planEachRow.domain false) (Rows.planEachSpec.post enc Try.prog Try.f5 false true false false) := by
  refine returnsInHanded_of_change (C := Try.checked) own started (by kernel_rfl) Try.func5
    (ChangeSpec.witness6 (enc := enc) (C := Try.checked) false ⟨#[], #[.agg #[.int .i64 0, .int .i64 0, .slice none 0 0, .int .i64 0, .int .i64 0, .int .i64 0, .int .i64 0, .int .i64 0]], []⟩ 8 (by kernel_rfl) (by kernel_rfl) (by kernel_rfl) (by kernel_rfl)) ?_
  intro W base args ds gs before hval0 hW hcnd _
  have hval : ∀ (j : Nat) t v, Try.f5.params[j]? = some t → args[j]? = some v → Value.okWide Try.prog W .any base t v := hval0
  have hW' := hW
  obtain ⟨p, q, hA0, hV, rfl, hfz, hnd⟩ := hW
  have hA : DataW.TrodAll enc Try.prog W 0 (fun _ => true) true Try.f5.params.toList args.toList ds p := hA0
  rw [Try.params5] at hA hval
  obtain ⟨v0, vs0, d0, ds0, p0, q0, hargs, rfl, rfl, h0, r0⟩ := trodAll_cons hA
  obtain ⟨rfl, rfl, rfl⟩ := trodAll_nil r0
  obtain rfl : args = #[v0] := by cases args; simp_all
  obtain ⟨rfl, rfl⟩ := trodVars_none hV
  have k0 := h0
  have lt0 : ∀ x ∈ p0, x.block < W.heap.size := by obtain ⟨m, hm⟩ := k0; exact DataW.trod_lt m _ _ _ hm
  obtain ⟨cs0, rfl, hz0, fm0, hx0⟩ := open_struct (n := 8) Try.underlying24 (by kernel_rfl) (hval 0 24 v0 rfl rfl) h0
  obtain ⟨e0_0, e0_1, e0_2, e0_3, e0_4, e0_5, e0_6, e0_7, rfl⟩ : ∃ e0_0 e0_1 e0_2 e0_3 e0_4 e0_5 e0_6 e0_7, cs0 = #[e0_0, e0_1, e0_2, e0_3, e0_4, e0_5, e0_6, e0_7] := by
    refine ⟨cs0[0], cs0[1], cs0[2], cs0[3], cs0[4], cs0[5], cs0[6], cs0[7], ?_⟩
    apply Array.ext
    · simpa using hz0
    · intro i h1 h2
      have : i = 0 ∨ i = 1 ∨ i = 2 ∨ i = 3 ∨ i = 4 ∨ i = 5 ∨ i = 6 ∨ i = 7 := by omega
      rcases this with rfl | rfl | rfl | rfl | rfl | rfl | rfl | rfl <;> rfl
  obtain ⟨fy0_0, fg0_0⟩ := hx0 0 _ rfl
  obtain ⟨a0_0, ea0_0, w0_0⟩ := flat_cell 8 _ 3 _ _ 0 .i64 fg0_0 (by kernel_rfl)
  obtain rfl : e0_0 = .int .i64 a0_0 := by have h9 : ([e0_0] : List Value)[0]? = some (Value.int .i64 a0_0) := ea0_0; simpa using h9
  obtain ⟨fy0_1, fg0_1⟩ := hx0 1 _ rfl
  obtain ⟨a0_1, ea0_1, w0_1⟩ := flat_cell 8 _ 3 _ _ 0 .i64 fg0_1 (by kernel_rfl)
  obtain rfl : e0_1 = .int .i64 a0_1 := by have h9 : ([e0_1] : List Value)[0]? = some (Value.int .i64 a0_1) := ea0_1; simpa using h9
  obtain ⟨fy0_2, fg0_2⟩ := hx0 2 _ rfl
  obtain ⟨sq0_2, sg0_2, so0_2, sn0_2, sk0_2, sl0_2, ee0_2, hl0_2, hk0_2, hm0_2, hp0_2, hg0_2, hc0_2⟩ := rows_of (n := 1) (D := 8) (fun _ => .i64) Try.underlying22 (by kernel_rfl) (by omega) (kinds_of (by kernel_rfl)) fg0_2
  obtain rfl : e0_2 = .slice sq0_2 sn0_2 sk0_2 := by have h9 : [e0_2] = [Value.slice sq0_2 sn0_2 sk0_2] := ee0_2; simpa using h9
  obtain ⟨S0_2_, B0_2_⟩ := is_rows hl0_2 hk0_2 hm0_2 hp0_2 hg0_2 hc0_2
  obtain ⟨fy0_3, fg0_3⟩ := hx0 3 _ rfl
  obtain ⟨a0_3, ea0_3, w0_3⟩ := flat_cell 8 _ 3 _ _ 0 .i64 fg0_3 (by kernel_rfl)
  obtain rfl : e0_3 = .int .i64 a0_3 := by have h9 : ([e0_3] : List Value)[0]? = some (Value.int .i64 a0_3) := ea0_3; simpa using h9
  obtain ⟨fy0_4, fg0_4⟩ := hx0 4 _ rfl
  obtain ⟨a0_4, ea0_4, w0_4⟩ := flat_cell 8 _ 3 _ _ 0 .i64 fg0_4 (by kernel_rfl)
  obtain rfl : e0_4 = .int .i64 a0_4 := by have h9 : ([e0_4] : List Value)[0]? = some (Value.int .i64 a0_4) := ea0_4; simpa using h9
  obtain ⟨fy0_5, fg0_5⟩ := hx0 5 _ rfl
  obtain ⟨a0_5, ea0_5, w0_5⟩ := flat_cell 8 _ 3 _ _ 0 .i64 fg0_5 (by kernel_rfl)
  obtain rfl : e0_5 = .int .i64 a0_5 := by have h9 : ([e0_5] : List Value)[0]? = some (Value.int .i64 a0_5) := ea0_5; simpa using h9
  obtain ⟨fy0_6, fg0_6⟩ := hx0 6 _ rfl
  obtain ⟨a0_6, ea0_6, w0_6⟩ := flat_cell 8 _ 3 _ _ 0 .i64 fg0_6 (by kernel_rfl)
  obtain rfl : e0_6 = .int .i64 a0_6 := by have h9 : ([e0_6] : List Value)[0]? = some (Value.int .i64 a0_6) := ea0_6; simpa using h9
  obtain ⟨fy0_7, fg0_7⟩ := hx0 7 _ rfl
  obtain ⟨a0_7, ea0_7, w0_7⟩ := flat_cell 8 _ 3 _ _ 0 .i64 fg0_7 (by kernel_rfl)
  obtain rfl : e0_7 = .int .i64 a0_7 := by have h9 : ([e0_7] : List Value)[0]? = some (Value.int .i64 a0_7) := ea0_7; simpa using h9
  clear hA0 hval0
  refine (walk a0_0 (bounds_i64 w0_0) a0_1 (bounds_i64 w0_1) (.slice sq0_2 sn0_2 sk0_2) _ S0_2_ B0_2_ a0_3 (bounds_i64 w0_3) a0_4 (bounds_i64 w0_4) a0_5 (bounds_i64 w0_5) a0_6 (bounds_i64 w0_6) a0_7 (bounds_i64 w0_7)).mono fun e W' ⟨he, bel⟩ => ?_
  subst he
  exact ⟨_, rfl, _, _, _, [], _, [], hW', trodAll_mk1 (shut_bool Try.underlying4 _), (trodAll_cons_mk (Below.trod laidOut (by kernel_rfl) (of_decide_eq_true (by kernel_rfl)) k0 bel lt0) trodAll_mk0), rfl, bel.frame _, fun h => by cases h⟩

theorem over : Rows.planEachRow.holds Try.pinned (OpenSpec.ofChange Rows.planEachSpec) :=
  OpenClaim.holds_of_wide 5 Try.f5 rfl rfl rfl rfl rfl rfl rfl ⟨rfl, rfl, rfl, rfl, rfl⟩ rfl rfl rfl rfl rfl (by kernel_rfl) Try.func5 (by kernel_rfl)
    (of_decide_eq_true (by kernel_rfl)) (by unfold Func.isWrapper; first | (rw [if_pos (by decide +kernel)]; kernel_rfl) | (rw [if_neg (by decide +kernel)]; exact ⟨rfl, rfl⟩))
    (fun os started H enc _ => lifted os started H enc)

theorem proved : Rows.PlanEachSaid := over
end Go.Proofs.Ytnooedipanhkjaa.planEach
namespace Go.Proofs.Ytnooedipanhkjaa
theorem planEach_holds : Rows.PlanEachSaid := planEach.proved
#print axioms planEach_holds
end Go.Proofs.Ytnooedipanhkjaa
