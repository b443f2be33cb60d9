/-
  basin: the document's Ids of an operation, as a row of names.
-/
import Derived.Test.YtfnageillhpjpaaPk46
import Derived.Test.YtfnageillhpjpaaPk21
import Derived.Test.YtfnageillhpjpaaPk09
namespace Go.Proofs.Ytfnageillhpjpaa
open Go.RowKit
set_option linter.unusedVariables false
set_option maxRecDepth 100000

theorem rids_is (o : Op5) (v : Value) (l : List Int) (sh : Int) (w : World) (hv : Is w v l) (ho : Fit5 o) (hl : ∀ r ∈ l, r ≤ 9223372036854775807) (h1 : sh ≤ 9223372036854775807) (hb : l.length ≤ 100000) :
    Calls Try.prog 9 #[opV o, v, .int .i64 sh] w fun e w' => ∃ v', e = .returned v' ∧ EO E3k 47 w' w.heap.size v' (idL o.t o.y sh l) ∧ Below w.heap.size w w' := by
  obtain ⟨q, cap, g, off, rfl, hc, hm, hp, hg, hr⟩ := hv
  refine (rids_any o.s o.k o.t o.y o.v q g off l.length cap l sh w rfl hb hp hg hr ho.t.1 ho.t.2 ho.y.1 ho.y.2 h1 (fun j r hj => hl r (List.mem_of_getElem? hj))).mono ?_
  rintro e w' ⟨v, rfl, hO, hb⟩
  exact ⟨v, rfl, eo_of (n := l.length) hO, hb⟩
end Go.Proofs.Ytfnageillhpjpaa
