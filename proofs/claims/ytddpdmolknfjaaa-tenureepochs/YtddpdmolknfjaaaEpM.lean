/-
  Three watches over one register, in memory.
-/
import Derived.Test.YtddpdmolknfjaaaEpP
import Derived.Test.YtddpdmolknfjaaaTnE
namespace Go.Proofs.Ytddpdmolknfjaaa
open Go.RowKit
set_option linter.unusedVariables false
set_option maxRecDepth 100000

theorem Wh.less {W : World} {base base' b : Nat} {S : Wt} (h : Wh W base b S) (hb : base' ≤ base) : Wh W base' b S := by
  obtain ⟨q, c, hB, hO⟩ := h.mem
  exact ⟨⟨q, c, hB, hO.less hb⟩, h.len, Nat.le_trans hb h.ge, h.age⟩
abbrev arC (bs : Nat → Nat) : Array Value := #[wptr (bs 0), wptr (bs 1), wptr (bs 2)]
abbrev lvC (lv : Nat → Int) : Array Value := #[.int .i64 (lv 0), .int .i64 (lv 1), .int .i64 (lv 2)]
theorem three {k : Nat} (h : k < 3) : k = 0 ∨ k = 1 ∨ k = 2 := by omega
theorem arC_at (bs : Nat → Nat) {k : Nat} (h : k < 3) : (arC bs)[k]? = some (wptr (bs k)) := by rcases three h with rfl | rfl | rfl <;> rfl
theorem lvC_at (lv : Nat → Int) {k : Nat} (h : k < 3) : (lvC lv)[k]? = some (.int .i64 (lv k)) := by rcases three h with rfl | rfl | rfl <;> rfl
theorem arC_set (bs : Nat → Nat) {k : Nat} (h : k < 3) (b : Nat) : (arC bs).setIfInBounds k (wptr b) = arC (upd bs k b) := by rcases three h with rfl | rfl | rfl <;> rfl
theorem lvC_set (lv : Nat → Int) {k : Nat} (h : k < 3) (x : Int) : (lvC lv).setIfInBounds k (.int .i64 x) = lvC (upd lv k x) := by rcases three h with rfl | rfl | rfl <;> rfl
structure Em (W : World) (base g5 g6 g9 : Nat) (bs : Nat → Nat) (Sf : Nat → Wt) (lv : Nat → Int) (la : Le) : Prop where
  arr : Blk W g5 (arC bs) 39
  liv : Blk W g6 (lvC lv) 40
  las : Blk W g9 (leC la) 29
  wat : ∀ k, k < 3 → Wh W base (bs k) (Sf k)
  dis : ∀ j k, j < 3 → k < 3 → j ≠ k → bs j ≠ bs k
  ge : base ≤ g5 ∧ base ≤ g6 ∧ base ≤ g9
variable {W W' : World} {base g5 g6 g9 : Nat} {bs : Nat → Nat} {Sf : Nat → Wt} {lv : Nat → Int} {la : Le}
theorem Em.le (h : Em W base g5 g6 g9 bs Sf lv la) : base ≤ W.heap.size := Nat.le_trans h.ge.1 (Nat.le_of_lt h.arr.lt)
theorem Em.keep (h : Em W base g5 g6 g9 bs Sf lv la) (hb : Below W.heap.size W W') : Em W' base g5 g6 g9 bs Sf lv la :=
  ⟨h.arr.keep hb, h.liv.keep hb, h.las.keep hb, fun k hk => (h.wat k hk).keep hb, h.dis, h.ge⟩
theorem Em.frm {k : Nat} {S' : Wt} (h : Em W base g5 g6 g9 bs Sf lv la) (hk : k < 3) (hf : Frm (fun x => x = bs k) W W') (hS : Wh W' base (bs k) S') : Em W' base g5 g6 g9 bs (upd Sf k S') lv la := by
  have hno := (h.wat k hk).noI
  obtain ⟨q, c, hB, -⟩ := (h.wat k hk).mem
  refine ⟨h.arr.frm hf (fun e => absurd e (blk_ne h.arr hB (by decide))), h.liv.frm hf (fun e => absurd e (blk_ne h.liv hB (by decide))), h.las.frm hf (fun e => absurd e (blk_ne h.las hB (by decide))), fun j hj => ?_, h.dis, h.ge⟩
  by_cases e : j = k
  · subst e
    rw [upd_at]
    exact hS
  · rw [upd_ne _ _ e]
    exact (h.wat j hj).frm hf (h.dis j k hj hk e) hno
/-- The last lease is another one. -/
theorem Em.last (h : Em W base g5 g6 g9 bs Sf lv la) {la' : Le} (hB : Blk W' g9 (leC la') 29) (hc : Chg g9 W W') : Em W' base g5 g6 g9 bs Sf lv la' := by
  have hf : Frm (fun x => x = g9) W W' := frm_chg hc rfl
  have hno : NoI (fun x => x = g9) W := fun x hx hi => by subst hx; exact absurd (h.las.kindR.uniq hi) (by decide)
  refine ⟨h.arr.chg hc (blk_ne h.arr h.las (by decide)), h.liv.chg hc (blk_ne h.liv h.las (by decide)), hB, fun k hk => ?_, h.dis, h.ge⟩
  obtain ⟨q, c, hB', -⟩ := (h.wat k hk).mem
  exact (h.wat k hk).frm hf (blk_ne hB' h.las (by decide)) hno
/-- A life more. -/
theorem Em.life (h : Em W base g5 g6 g9 bs Sf lv la) {k : Nat} (hk : k < 3) (x : Int) : Em (W.setCell ⟨g6, k, none⟩ (.int .i64 x)) base g5 g6 g9 bs Sf (upd lv k x) la := by
  have hc := chg_set W g6 k (.int .i64 x)
  have hf : Frm (fun x => x = g6) W (W.setCell ⟨g6, k, none⟩ (.int .i64 x)) := frm_chg hc rfl
  have hno : NoI (fun x => x = g6) W := fun x hx hi => by subst hx; exact absurd (h.liv.kindR.uniq hi) (by decide)
  refine ⟨h.arr.chg hc (blk_ne h.arr h.liv (by decide)), ?_, h.las.chg hc (blk_ne h.las h.liv (by decide)), fun k hk => ?_, h.dis, h.ge⟩
  · rw [← lvC_set lv hk x]
    exact h.liv.set k _
  · obtain ⟨q, c, hB', -⟩ := (h.wat k hk).mem
    exact (h.wat k hk).frm hf (blk_ne hB' h.liv (by decide)) hno
/-- A new watch in another one's place. -/
theorem Em.put (h : Em W base g5 g6 g9 bs Sf lv la) {k b : Nat} (hk : k < 3) {S' : Wt} (hS : Wh W base b S') (hn : ∀ j, j < 3 → bs j ≠ b) : Em (W.setCell ⟨g5, k, none⟩ (wptr b)) base g5 g6 g9 (upd bs k b) (upd Sf k S') lv la := by
  have hc := chg_set W g5 k (wptr b)
  have hf : Frm (fun x => x = g5) W (W.setCell ⟨g5, k, none⟩ (wptr b)) := frm_chg hc rfl
  have hno : NoI (fun x => x = g5) W := fun x hx hi => by subst hx; exact absurd (h.arr.kindR.uniq hi) (by decide)
  refine ⟨?_, h.liv.chg hc (blk_ne h.liv h.arr (by decide)), h.las.chg hc (blk_ne h.las h.arr (by decide)), fun j hj => ?_, fun i j hi hj hij => ?_, h.ge⟩
  · rw [← arC_set bs hk b]
    exact h.arr.set k _
  · by_cases e : j = k
    · subst e
      rw [upd_at, upd_at]
      obtain ⟨q, c, hB', -⟩ := hS.mem
      exact hS.frm hf (blk_ne hB' h.arr (by decide)) hno
    · rw [upd_ne _ _ e, upd_ne _ _ e]
      obtain ⟨q, c, hB', -⟩ := (h.wat j hj).mem
      exact (h.wat j hj).frm hf (blk_ne hB' h.arr (by decide)) hno
  · by_cases e : i = k
    · subst e
      rw [upd_at, upd_ne _ _ (fun e => hij e.symm)]
      exact fun e => hn j hj e.symm
    · by_cases e2 : j = k
      · subst e2
        rw [upd_at, upd_ne _ _ e]
        exact hn i hi
      · rw [upd_ne _ _ e, upd_ne _ _ e2]
        exact h.dis i j hi hj hij
theorem ix3 (bs : Nat → Nat) {k : Nat} (hk : k < 3) (W : World) : (Instr.index 39 (.agg (arC bs)) (.int .i64 (k : Int))).run Try.prog W = .ok (wptr (bs k)) W := by
  rcases three hk with rfl | rfl | rfl <;> kernel_rfl
theorem info_ar (bs : Nat → Nat) : (Try.prog.info? 39).map (·.size) = some (arC bs).size := by kernel_rfl
end Go.Proofs.Ytddpdmolknfjaaa
