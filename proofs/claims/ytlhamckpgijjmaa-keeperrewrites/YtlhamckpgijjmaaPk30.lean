/-
  estuarylaw06.alive.
-/
import Derived.Test.YtlhamckpgijjmaaPk29
namespace Go.Proofs.Ytlhamckpgijjmaa
open Go.RowKit
set_option linter.unusedVariables false
theorem stb_at {w w' : World} {base b n c : Nat} {v : Value} {S : TS} {m : List Nat} (hT : Tp w base b v S) (h : Sl w' (.slice (some ⟨w.heap.size, 0, none⟩) n c) m) : Stb b w' v (.slice (some ⟨w.heap.size, 0, none⟩) n c) m :=
  stb_far h fun g hg => by
    have hg' : w.heap.size = g := by simpa [Value.ownBlock] using hg
    have h2 := hT.blk.lt
    refine ⟨by omega, fun e => ?_⟩
    have := (hT.own.lt g e).2
    omega
theorem below_mark {w w1 w2 : World} (h : Below w.heap.size w w1) (k : Chg w.heap.size w1 w2) : Below w.heap.size w w2 := h.trans (k.below (Nat.le_refl _))
theorem str_abc : strB [97, 98, 99] = ⟨#[97, 98, 99]⟩ := by decide +kernel
end Go.Proofs.Ytlhamckpgijjmaa
