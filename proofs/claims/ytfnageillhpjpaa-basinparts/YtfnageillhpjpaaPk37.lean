/-
  The numbers of a cell: cell.Nums.
-/
import Derived.Test.YtfnageillhpjpaaPk36
import Derived.Maps.OwnIn
namespace Go.Proofs.Ytfnageillhpjpaa
set_option maxRecDepth 100000
open Go.RowKit Go.Shelf
set_option linter.unusedVariables false
attribute [local go_sem] Oper.semAt_some

theorem own_kept {W W' : World} {row : Option Nat} {base e size n : Nat} {v : Value} {xs : List Value} (h : W.ownsRow base e size v n xs) (hg : W.grownBy W' row) (hr : ∀ r, row = some r → ∃ o : Obj, W.heap[r]? = some o ∧ o.isCells = false) : W'.ownsRow base e size v n xs := by
  refine ⟨h.1, ?_⟩
  rcases h.2 with h2 | ⟨g, cap, cur, h1, h2, h3, h4⟩
  · exact .inl h2
  · exact .inr ⟨g, cap, cur, h1, h2, blk_kept (b := g) h3 hg hr, h4⟩
/-- A number is written into an own row. -/
theorem own_set {W : World} {base n g cap i : Nat} {l : List Int} (h : W.ownsRow base 3 1 (.slice (some ⟨g, 0, none⟩) n cap) n (ints l)) (hi : i < n) (x : Int) :
    (W.setCell ⟨g, i, none⟩ (.int .i64 x)).ownsRow base 3 1 (.slice (some ⟨g, 0, none⟩) n cap) n (ints (l.set i x)) := by
  have hlen : l.length = n := by have := h.1; rw [ints_len, Nat.mul_one] at this; exact this
  rcases h.2 with ⟨h2, _⟩ | ⟨g', cap', cur, e, hb, hg, hnc, hcm, hcs, ht⟩
  · cases h2
  · cases e
    refine ⟨by rw [ints_len, List.length_set, hlen, Nat.mul_one], .inr ⟨g, cap, cur.setIfInBounds i (.int .i64 x), rfl, hb, Blk.set hg i _, hnc, hcm, by simpa using hcs, ?_⟩⟩
    rw [Array.toList_setIfInBounds, List.take_set, ht]
    simp [ints, List.map_set]
theorem own_blk {W : World} {base n g cap : Nat} {l : List Value} (h : W.ownsRow base 3 1 (.slice (some ⟨g, 0, none⟩) n cap) n l) : ∃ cur, Blk W g cur 3 := by
  rcases h.2 with ⟨h2, _⟩ | ⟨g', cap', cur, e, hb, hg, _⟩
  · cases h2
  · cases e; exact ⟨cur, hg⟩
theorem blk_apart {W : World} {b c : Nat} {vs us : Array Value} {t u : TypeId} (h : Blk W b vs t) (k : Blk W c us u) (hn : t ≠ u) : b ≠ c := by
  rintro rfl
  have e : W.heap[b]? = _ := h
  have f : W.heap[b]? = _ := k
  rw [e] at f
  cases f
  exact hn rfl
theorem own_chg {W W' : World} {base n g cap b : Nat} {l : List Value} (h : W.ownsRow base 3 1 (.slice (some ⟨g, 0, none⟩) n cap) n l) (hc : Chg b W W') (hn : g ≠ b) : W'.ownsRow base 3 1 (.slice (some ⟨g, 0, none⟩) n cap) n l := by
  refine ⟨h.1, ?_⟩
  rcases h.2 with ⟨h2, _⟩ | ⟨g', cap', cur, e, hb, hg, h4⟩
  · cases h2
  · cases e
    exact .inr ⟨g, cap, cur, rfl, hb, Blk.chg hg hc hn, h4⟩
section
variable {F : Fence} {fu : Nat} {ops : Array Oper} {rest : List Oper} {o : Oper} {a : Act} {w : World} {Q : Exit → Act → World → Prop}
theorem bs_ownI (hgd : o.guard = none) {n : Nat} {parts : Array (Nat × Operand)} (ho : o.op = .buildSlice 23 n parts) (xs : List Int) {vs : Array (Nat × Value)} (hl : parts.map (fun (i, x) => (i, a.eval x)) = vs)
    (hrun : (Instr.buildSlice 23 n vs).run Try.prog w = .ok (.slice (some ⟨w.heap.size, 0, none⟩) n n) (w.alloc (.cells (ints xs).toArray 3))) (hn : xs.length = n) (hm : n ≤ maxLen)
    (h : ∀ W', W' = w.alloc (.cells (ints xs).toArray 3) → W'.ownsRow w.heap.size 3 1 (.slice (some ⟨w.heap.size, 0, none⟩) n n) n (ints xs) → Below w.heap.size w W' → wpListIn F fu Try.prog ops Q rest (a.put o.dst (.slice (some ⟨w.heap.size, 0, none⟩) n n)) W') : wpListIn F fu Try.prog ops Q (o :: rest) a w := by
  refine wpListIn_plain hgd fun K hK' => ?_
  unfold Oper.wpIn
  refine ⟨?_, ?_⟩
  · simp [Oper.about, ho]
  · rw [Oper.semAt_plain F _ _ (by rw [ho]; intro c hc'; cases hc')]
    unfold execOp
    simp only [ho, Sem.run_bind, hl, hrun, Result.andThen_ok]
    exact hK' _ _ (h _ rfl (own_new w xs n hn hm _ (Nat.le_refl _)) ((Below.refl _ _).alloc (Nat.le_refl _) _))
end
/-- What has been gathered. -/
def toPV (p : Pl) : PV := ((p.1.1 : Int), p.1.2)
def gath (c : Nat → Int) (pre : List Pl) : List Int := hdF c (pre.length : Int) ++ flatP (pre.map toPV)
theorem gath_len (c : Nat → Int) (pre : List Pl) : (gath c pre).length = 10 + 2 * pre.length := by simp [gath, hdF, flatP_len]; omega
theorem gath_nine (c : Nat → Int) (pre : List Pl) : (gath c pre)[9]? = some (pre.length : Int) := by simp [gath, hdF]
theorem gath_snoc (c : Nat → Int) (pre : List Pl) (p : Pl) : (gath c pre).set 9 ((pre.length : Int) + 1) ++ [(p.1.1 : Int), p.1.2] = gath c (pre ++ [p]) := by
  unfold gath hdF
  rw [List.map_append, List.map_singleton, flatP_snoc]
  simp [toPV]
theorem prs_pp (h : Nat → Int) (hb) : ∀ k, k ≤ 65 → (prs h hb k).map toPV = pp h k
  | 0, _ => rfl
  | k + 1, hk => by
    have ih := prs_pp h hb k (by omega)
    rw [prs, dif_pos (by omega)]
    simp only [pp]
    by_cases z : h k = 0
    · rw [if_pos z, if_pos z, ih]
    · rw [if_neg z, if_neg z, List.map_append, ih]; rfl
theorem gath_all (c : Nat → Int) (hb) : gath c (prs (fun i => c (9 + i)) hb 65) = numsF c := by
  have h := prs_pp (fun i => c (9 + i)) hb 65 (by omega)
  have hl := congrArg List.length h
  rw [List.length_map] at hl
  unfold gath numsF
  rw [h, hl]
  rfl

end Go.Proofs.Ytfnageillhpjpaa
