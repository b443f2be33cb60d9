/-
  The cell of each sample: estuarylaw02.cells.
-/
import Derived.Test.YtnppdachbfcfkaaAlive
import Derived.Maps.AppendAt
namespace Go.Proofs.Ytnppdachbfcfkaa
open Go.RowKit Go.Shelf
set_option linter.unusedVariables false

/-- The cell of a sample by its six numbers. -/
def oneS (s : Nat → Int) : Nat → Int := oneF (s 0) (s 1) (s 3) (s 5)
def Fit (v : Int) : Prop := -9223372036854775808 ≤ v ∧ v ≤ 9223372036854775807
/-- A row of samples in memory. -/
def SRow (W : World) (g off : Nat) (l : List (Nat → Int)) : Prop := ∀ j s, l[j]? = some s → ∀ i, i < 6 → W.cell? ⟨g, off + j * 6 + i, none⟩ = some (.int .i64 (s i)) ∧ Fit (s i)
def flatC (l : List (Nat → Int)) : List Value := l.flatMap fun c => (CA c).toList
theorem flatC_snoc (l : List (Nat → Int)) (c : Nat → Int) : flatC (l ++ [c]) = flatC l ++ (CA c).toList := by simp [flatC]
theorem flatC_len (l : List (Nat → Int)) : (flatC l).length = l.length * 74 := by
  induction l with
  | nil => rfl
  | cons c l ih => simp [flatC] at ih ⊢; rw [ih, CA_size]; omega
theorem flatC_at : ∀ (l : List (Nat → Int)) (j : Nat) (c : Nat → Int), l[j]? = some c → ∀ i, i < 74 → (flatC l)[j * 74 + i]? = (CA c).toList[i]?
  | [], j, c, h, i, hi => by simp at h
  | d :: l, 0, c, h, i, hi => by
    simp at h; subst h
    simp only [flatC, List.flatMap_cons, Nat.zero_mul, Nat.zero_add]
    rw [List.getElem?_append_left (by simp [CA_size]; exact hi)]
  | d :: l, j + 1, c, h, i, hi => by
    simp at h
    have ih := flatC_at l j c h i hi
    simp only [flatC, List.flatMap_cons] at ih ⊢
    rw [List.getElem?_append_right (by simp [CA_size]; omega)]
    rw [← ih]; congr 1; simp [CA_size]; omega
theorem infoCell : (Try.prog.info? 31).map (fun i => (i.zero, i.size, i.bytes)) = some (some (.agg (CA zc)), 74, 592) := by kernel_rfl
theorem slice1 (a : Nat → Int) (w : World) : (Instr.buildSlice 33 1 #[(0, .agg (CA a))]).run Try.prog w = .ok (.slice (some ⟨w.heap.size, 0, none⟩) 1 1) (w.alloc (.cells (CA a) 31)) := by kernel_rfl
section
variable {ops : Array Oper} {rest : List Oper} {o : Oper} {a : Act} {w : World} {Q : Exit → Act → World → Prop}
theorem bs1 (hgd : o.guard = none) {parts : Array (Nat × Operand)} (ho : o.op = .buildSlice 33 1 parts) (x : Nat → Int) (hl : parts.map (fun (i, x) => (i, a.eval x)) = #[(0, .agg (CA x))])
    (h : ∀ W', Blk W' w.heap.size (CA x) 31 → Below w.heap.size w W' → W'.heap.size = w.heap.size + 1 → wpList Try.prog ops Q rest (a.put o.dst (.slice (some ⟨w.heap.size, 0, none⟩) 1 1)) W') : wpList Try.prog ops Q (o :: rest) a w := by
  refine wpList_plain hgd fun K hK => ?_
  unfold Oper.wp execOp
  simp only [ho, Sem.run_bind, hl, slice1, Result.andThen_ok]
  exact hK _ _ (h _ (Blk.new _ _ _) ((Below.refl _ _).alloc (Nat.le_refl _) _) (by simp))
end
/-- A row that the call made is a row of cells. -/
theorem owns_crow {W : World} {base n : Nat} {v : Value} {l : List (Nat → Int)} (h : W.ownsRow base 31 74 v n (flatC l)) (hv : v ≠ .slice none 0 0) :
    ∃ g cap, v = .slice (some ⟨g, 0, none⟩) n cap ∧ base ≤ g ∧ g < W.heap.size ∧ l.length = n ∧ n ≤ cap ∧ cap ≤ maxLen ∧ CRow W g 0 l := by
  obtain ⟨h1, h2⟩ := h
  rcases h2 with ⟨h2, _⟩ | ⟨g, cap, cur, rfl, hb, hg, hnc, hcm, hcs, ht⟩
  · exact absurd h2 hv
  · have hlen : l.length = n := by rw [flatC_len] at h1; omega
    refine ⟨g, cap, rfl, hb, (Array.getElem?_eq_some_iff.1 hg).1, hlen, hnc, hcm, fun j c hc i u hu => ?_⟩
    have hB : Blk W g cur 31 := hg
    have hi : i < 74 := by have := (List.getElem?_eq_some_iff.1 hu).1; simpa [CA_size] using this
    have hj : j < l.length := (List.getElem?_eq_some_iff.1 hc).1
    have e := flatC_at l j c hc i hi
    rw [hu, ← ht] at e
    rw [hB.cell, Nat.zero_add]
    rw [List.getElem?_take_of_lt (by omega)] at e
    simpa using e

theorem owns_keep {W W' : World} {base e size n : Nat} {v : Value} {xs : List Value} (h : W.ownsRow base e size v n xs) (hb : Below W.heap.size W W') : W'.ownsRow base e size v n xs := by
  refine ⟨h.1, ?_⟩
  rcases h.2 with h2 | ⟨g, cap, cur, h1, h2, hg, h3⟩
  · exact .inl h2
  · exact .inr ⟨g, cap, cur, h1, h2, (hb.block g (Array.getElem?_eq_some_iff.1 hg).1).trans hg, h3⟩

set_option maxHeartbeats 1000000 in
theorem cells_any (p : Option Addr) (g off n cap : Nat) (l : List (Nat → Int)) (w : World) (hn : l.length = n) (hb : n ≤ 2000) (hp : 0 < n → p = some ⟨g, off, none⟩) (hr : SRow w g off l) (hg : 0 < n → g < w.heap.size) :
    Calls Try.prog 11 #[.slice p n cap] w fun e w' => ∃ v, e = .returned v ∧ w'.ownsRow w.heap.size 31 74 v n (flatC (l.map oneS)) ∧ v ≠ .slice none 0 0 ∧ Below w.heap.size w w' := by
  obtain ⟨i0, hi, hz0, hz1, hz2⟩ := info_parts infoCell
  go_enter Try.func11, Try.ntmps11
  go_wp2_with fail
  go_loopw [3, 9] (fun v i wr => ∃ k : Nat, k ≤ n ∧ i = .int .i64 (k : Int) ∧ wr.ownsRow w.heap.size 31 74 v k (flatC ((l.map oneS).take k)) ∧ v ≠ .slice none 0 0 ∧ Below w.heap.size w wr) (fun _ i _ => n - (intOf i).toNat)
  case atStart =>
    refine ⟨0, by omega, rfl, ?_, by simp, ab_alloc (Below.refl _ _) _⟩
    refine ⟨rfl, .inr ⟨w.heap.size, 0, #[], rfl, Nat.le_refl _, Blk.new _ _ _, by omega, by omega, rfl, rfl⟩⟩
  case round =>
    obtain ⟨k, hk, rfl, hown, hv, hw⟩ := hrel
    by_cases c : k = n
    · have HJ : Hid (flatC ((l.map oneS).take k) = flatC (l.map oneS)) := by show _ = _; rw [List.take_of_length_le (by simp; omega)]
      subst c
      rw [HJ.out] at hown
      clear HJ hr
      go_wp2_with fail
      go_ret
      exact ⟨_, rfl, hown, hv, hw⟩
    · have hlt : k < l.length := by omega
      obtain ⟨s, hs⟩ : ∃ s, l[k]? = some s := ⟨l[k], List.getElem?_eq_getElem hlt⟩
      obtain rfl := hp (by omega)
      have hki : (k : Int) < (n : Int) := by omega
      have cell := fun i hi => hw.cell (p := ⟨g, off + k * 6 + i, none⟩) (hg (by omega))
      have c0 := (hw.cell (p := ⟨g, off + k * 6 + 0, none⟩) (hg (by omega))).trans (hr k s hs 0 (by omega)).1
      have c1 := (hw.cell (p := ⟨g, off + k * 6 + 1, none⟩) (hg (by omega))).trans (hr k s hs 1 (by omega)).1
      have c2 := (hw.cell (p := ⟨g, off + k * 6 + 2, none⟩) (hg (by omega))).trans (hr k s hs 2 (by omega)).1
      have c3 := (hw.cell (p := ⟨g, off + k * 6 + 3, none⟩) (hg (by omega))).trans (hr k s hs 3 (by omega)).1
      have c4 := (hw.cell (p := ⟨g, off + k * 6 + 4, none⟩) (hg (by omega))).trans (hr k s hs 4 (by omega)).1
      have c5 := (hw.cell (p := ⟨g, off + k * 6 + 5, none⟩) (hg (by omega))).trans (hr k s hs 5 (by omega)).1
      have f5 := (hr k s hs 5 (by omega)).2
      have HT : Hid ((l.map oneS).take (k + 1) = (l.map oneS).take k ++ [oneS s]) := by show _ = _; rw [List.take_add_one]; simp [hs]
      clear hr cell hs hlt hp hg
      rw [Nat.add_zero] at c0
      go_upto_region 5 with fail
      have hown1 := owns_keep hown ((Below.refl _ _).alloc (Nat.le_refl _) (.cells #[.int .i64 (s 0), .int .i64 (s 1), .int .i64 (s 2), .int .i64 (s 3), .int .i64 (s 4), .int .i64 (s 5)] 55))
      have hw1 := ab_alloc hw (.cells #[.int .i64 (s 0), .int .i64 (s 1), .int .i64 (s 2), .int .i64 (s 3), .int .i64 (s 4), .int .i64 (s 5)] 55)
      have hq := Blk.new wr #[.int .i64 (s 0), .int .i64 (s 1), .int .i64 (s 2), .int .i64 (s 3), .int .i64 (s 4), .int .i64 (s 5)] 55
      clear c0 c1 c2 c3 c4 c5 hown hw
      generalize wr.alloc (.cells #[.int .i64 (s 0), .int .i64 (s 1), .int .i64 (s 2), .int .i64 (s 3), .int .i64 (s 4), .int .i64 (s 5)] 55) = V1 at *
      have q0 := hq.at (i := 0) rfl
      have q1 := hq.at (i := 1) rfl
      have q2 := hq.at (i := 2) rfl
      have q3 := hq.at (i := 3) rfl
      have q4 := hq.at (i := 4) rfl
      have q5 := hq.at (i := 5) rfl
      go_wp2_with (first
        | (go_at_call 22; refine (one_any _ _ _ _ _ _ _ f5.1 f5.2).mono ?_; rintro e V2 ⟨rfl, b2⟩; have hown2 := owns_keep hown1 b2; have hw2 := ab_trans hw1 b2; clear hown1 hw1 b2 q0 q1 q2 q3 q4 q5 hq)
        | (refine bs1 rfl rfl (oneS s) (by simp only [List.map_toArray, List.map_cons, List.map_nil]; rfl) ?_; intro V3 hN b3 z3; have hown3 := owns_keep hown2 b3; have hw3 := ab_trans hw2 b3)
        | (at_builtin; refine wpList_append_own _ rfl _ _ 33 rfl w.heap.size 31 i0 (.agg (CA zc)) 74 592 Try.underlying33 hi hz0 hz1 hz2 (CA_size _) (by decide) _ _ _ rfl hown3 ⟨V2.heap.size, 0, none⟩ 1 1 (CA (oneS s)).toList rfl (by simp [CA_size]) ?c1 ?c2 ?c3 ?c4 ?c5 ?_))
      case c1 => intro j u hj; rw [Addr.add_mid, Nat.zero_add, hN.cell]; simpa using hj
      case c2 => intro u hu; exact (Array.all_eq_true_iff_forall_mem.1 (CA_one (oneS s))) u (by simpa using hu)
      case c3 => unfold maxLen; omega
      case c4 => omega
      case c5 => exact hw3.size
      intro v' w1 hown' hgrow hnil
      have hv' : Hid (v' ≠ .slice none 0 0) := by intro e; first | exact hv (hnil.1 e).1 | exact hnil e
      clear hnil
      have hw' : Below w.heap.size w w1 := by
        refine hw3.grown hgrow hw3.size (fun r hr => ?_)
        rcases hown3.2 with ⟨rfl, _⟩ | ⟨g', cap', cur', rfl, hbg, _⟩
        · cases hr
        · cases hr; exact hbg
      rw [← flatC_snoc, ← HT.out] at hown'
      go_wp2_with fail
      go_roundw
      case rel => exact ⟨k + 1, by omega, by go_num, hown', hv'.out, hw'⟩
      case measure => simp [intOf]; omega
end Go.Proofs.Ytnppdachbfcfkaa
