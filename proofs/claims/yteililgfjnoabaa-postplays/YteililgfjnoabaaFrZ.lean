/-
  estuarynum.Copy and estuarynum.Kept.
-/
import Derived.Test.YteililgfjnoabaaFrC
namespace Go.Proofs.Yteililgfjnoabaa
open Go.RowKit
set_option linter.unusedVariables false

/-- A copy: its bytes, and two marks behind them. -/
def Cp (W : World) (base : Nat) (v : Value) (l : List Nat) : Prop := ∃ g cap, v = .slice (some ⟨g, 0, none⟩) l.length cap ∧ W.ownsRow base 5 1 (.slice (some ⟨g, 0, none⟩) (l.length + 2) cap) (l.length + 2) (bys (l ++ [165, 90]))
theorem Cp.keep {W W' : World} {base : Nat} {v : Value} {l : List Nat} (h : Cp W base v l) (hb : Below W.heap.size W W') : Cp W' base v l := by
  obtain ⟨g, cap, rfl, h1⟩ := h
  exact ⟨g, cap, rfl, own_keep h1 hb⟩
theorem own_pre {W : World} {base g n m cap : Nat} {xs : List Value} (h : W.ownsRow base 5 1 (.slice (some ⟨g, 0, none⟩) n cap) n xs) (hm : m ≤ n) : W.ownsRow base 5 1 (.slice (some ⟨g, 0, none⟩) m cap) m (xs.take m) := by
  obtain ⟨h1, h2⟩ := h
  refine ⟨by rw [List.length_take]; omega, .inr ?_⟩
  rcases h2 with ⟨h2, _⟩ | ⟨g', cap', cur, e, hb, hg, hnc, hcm, hcs, ht⟩
  · cases h2
  · cases e
    refine ⟨g, cap, cur, rfl, hb, hg, by omega, hcm, hcs, ?_⟩
    rw [← ht, List.take_take]
    congr 1
    omega
theorem Cp.ow {W : World} {base : Nat} {v : Value} {l : List Nat} (h : Cp W base v l) : Ow W base v l := by
  obtain ⟨g, cap, rfl, h1⟩ := h
  have := own_pre h1 (Nat.le_add_right l.length 2)
  have e : (bys (l ++ [165, 90])).take l.length = bys l := by
    rw [← bys_append, ← bys_len l, List.take_left]
  rw [e] at this
  exact this
set_option maxHeartbeats 400000 in
theorem copy_any (v : Value) (l : List Nat) (w : World) (hv : Sl w v l) (hl : l.length ≤ 140737488351232) :
    Calls Try.prog 12 #[v] w fun e w' => ∃ v', e = .returned v' ∧ Cp w' w.heap.size v' l ∧ Below w.heap.size w w' := by
  obtain ⟨q, cap, e, -⟩ := id hv
  subst e
  generalize hn : l.length = n at *
  go_enter Try.func12, Try.ntmps12
  go_wp2_with (first
    | (refine mk_own (c := n + 2) w rfl rfl Try.underlying34 infoByte rfl rfl (by omega) (by omega) (by unfold maxLen; omega) (Below.refl _ _) ?_; intro v1 W1 hown1 hv1 hb1 hb1')
    | (at_builtin; refine app_by w rfl rfl rfl (ow_empty hown1) rfl (hv.keep hb1) hn (by show 0 + n ≤ _; omega) hb1 ?_; intro v2 W2 hown2 hnil2 hb2 hgr2 hat2)
    | (refine bs_by rfl rfl [165, 90] (vs := #[(0, .int .u8 165), (1, .int .u8 90)]) (by simp only [List.map_toArray, List.map_cons, List.map_nil]; rfl) (bsb2 165 90 _) rfl (by decide) ?_; intro W3 hN3 hb3 z3)
    | (at_builtin; refine app_by w rfl rfl rfl (own_keep hown2 hb3) rfl (own_sl hN3).2 rfl (by show 0 + n + 2 ≤ _; omega) (ab_trans hb2 hb3) ?_; intro v4 W4 hown4 hnil4 hb4 hgr4 hat4; obtain ⟨g4, cap4, e4, -, -, hc4, -, -⟩ := own_cells hown4 (fun e => by have h5 := (hnil4.1 e).1; exact hv1 ((hnil2.1 h5).1)); subst e4)
    | (refine sl_h rfl rfl (h := n) rfl rfl eltB (sizeB _) (by show n ≤ _; have : 0 + n + 2 ≤ cap4 := hc4; omega) ?_))
  go_ret
  refine ⟨_, rfl, ⟨g4, cap4, by rw [hn]; rfl, ?_⟩, hb4⟩
  have : W4.ownsRow w.heap.size 5 1 (.slice (some ⟨g4, 0, none⟩) (0 + n + 2) cap4) (0 + n + 2) (bys ([] ++ l ++ [165, 90])) := hown4
  rw [Nat.zero_add, List.nil_append] at this
  rw [hn]
  exact this
set_option maxHeartbeats 400000 in
theorem kept_any (v u : Value) (l : List Nat) (base : Nat) (w : World) (hc : Cp w base v l) (hu : Sl w u l) (hl : l.length ≤ 140737488351232) :
    Calls Try.prog 15 #[v, u] w fun e w' => e = .returned (.bool true) ∧ w' = w := by
  have c1 := sl_str hc.ow.sl
  have c2 := sl_str hu
  obtain ⟨g, cap, e, hown⟩ := hc
  subst e
  obtain ⟨q, cap2, e, -⟩ := id hu
  subst e
  have d1 := hown.cellAt l.length (by omega)
  have d2 := hown.cellAt (l.length + 1) (by omega)
  rw [bys_at, List.getElem?_append_right (Nat.le_refl _), Nat.sub_self] at d1
  rw [bys_at, List.getElem?_append_right (by omega), Nat.add_sub_cancel_left] at d2
  have d1' : w.cell? ⟨g, l.length, none⟩ = some (.int .u8 165) := d1
  have d2' : w.cell? ⟨g, l.length + 1, none⟩ = some (.int .u8 90) := d2
  obtain ⟨g', cap', e', -, -, hcc, -, -⟩ := own_cells hown (by simp)
  cases e'
  clear d1 d2 hown hu
  generalize hn : l.length = n at *
  have hci : ¬ (cap : Int) < (n : Int) + 2 := by omega
  go_enter Try.func15, Try.ntmps15
  go_wp2_with (refine sl_h rfl rfl (h := n + 2) rfl rfl eltB (sizeB _) (by omega) ?_)
  go_ret
  exact ⟨rfl, rfl⟩
end Go.Proofs.Yteililgfjnoabaa
