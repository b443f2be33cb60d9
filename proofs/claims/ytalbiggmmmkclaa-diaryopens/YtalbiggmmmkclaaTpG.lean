/-
  estuarylaw06.alive.
-/
import Derived.Test.YtalbiggmmmkclaaTpF
namespace Go.Proofs.Ytalbiggmmmkclaa
open Go.RowKit
set_option linter.unusedVariables false
/-- A constant text turned into bytes: the new row gets a mark behind its last cell. -/
theorem cv_t {ops : Array Oper} {rest : List Oper} {o : Oper} {a : Act} {w : World} {Q : Exit → Act → World → Prop} (hw : Region.wanted o (yielded ops a.tmps) = true) {x : Operand} (ho : o.op = .convert 39 39 x)
    {base g n c : Nat} {m : List Nat} (hx : a.eval x = .slice (some ⟨g, 0, none⟩) n c) (hown : w.ownsRow base 5 1 (.slice (some ⟨g, 0, none⟩) n c) n (bys m))
    (h : ∀ W', Sl W' (.slice (some ⟨g, 0, none⟩) n c) m → Chg g w W' → wpList Try.prog ops Q rest (a.put o.dst (.slice (some ⟨g, 0, none⟩) n c)) W') : wpList Try.prog ops Q (o :: rest) a w := by
  obtain ⟨hl, hs⟩ := own_sl hown
  rcases hown.2 with ⟨h2, _⟩ | ⟨g', cap', cur, e, hb, hg, hnc, hcm, hcs, ht⟩
  · cases h2
  · cases e
    have hsh : w.shape? g = some (5, cur.size) := by unfold World.shape?; rw [hg]
    have hrun : (convert 39 39 (.slice (some ⟨g, 0, none⟩) n c)).run Try.prog w = .ok (.slice (some ⟨g, 0, none⟩) n c) (w.freeze ⟨g, cur.size, none⟩ 1) := by
      simp [convert, run_underlying Try.underlying39, run_underlying Try.underlying5, markStringish, hsh]
    have hf : (w.freeze ⟨g, cur.size, none⟩ 1).heap[g]? = some (.cells cur 5 (cur.size, cur.size + 1)) := by
      unfold World.freeze
      rw [if_neg (by decide)]
      simp [Array.getElem?_modify, hg]
    have hchg : Chg g w (w.freeze ⟨g, cur.size, none⟩ 1) := by
      unfold World.freeze
      rw [if_neg (by decide)]
      exact ⟨rfl, rfl, rfl, by simp, fun k hk => by simp [Array.getElem?_modify, Ne.symm hk]⟩
    have hsl : Sl (w.freeze ⟨g, cur.size, none⟩ 1) (.slice (some ⟨g, 0, none⟩) n c) m := by
      obtain ⟨q, cap, e, h1, h2, h3⟩ := hs
      refine ⟨q, cap, e, h1, h2, fun h0 => ?_⟩
      obtain ⟨g2, off, rfl, hg2, hr⟩ := h3 h0
      cases e
      refine ⟨g, 0, rfl, by rw [hchg.size]; exact hg2, fun j y hy => ?_⟩
      rw [cell_of_row _ g (0 + j) cur 5 _ hf, ← hr j y hy, cell_of_row w g (0 + j) cur 5 _ hg]
    unfold wpList
    rw [if_pos hw]
    left
    unfold Oper.wp execOp
    simp only [ho, Sem.run_bind, hx, hrun, Result.andThen_ok]
    exact h _ hsl hchg
theorem stb_at {w w' : World} {base b n c : Nat} {v : Value} {S : TS} {m : List Nat} (hT : Tp w base b v S) (h : Sl w' (.slice (some ⟨w.heap.size, 0, none⟩) n c) m) : Stb b w' v (.slice (some ⟨w.heap.size, 0, none⟩) n c) m :=
  stb_far h fun g hg => by
    have hg' : w.heap.size = g := by simpa [Value.ownBlock] using hg
    have h2 := hT.blk.lt
    refine ⟨by omega, fun e => ?_⟩
    have := (hT.own.lt g e).2
    omega
theorem below_mark {w w1 w2 : World} (h : Below w.heap.size w w1) (k : Chg w.heap.size w1 w2) : Below w.heap.size w w2 := h.trans (k.below (Nat.le_refl _))
theorem str_abc : strB [97, 98, 99] = ⟨#[97, 98, 99]⟩ := by decide +kernel
end Go.Proofs.Ytalbiggmmmkclaa
