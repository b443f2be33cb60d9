/-
  No cell of these rows narrows 'for every input' (looked for: loops, veiled, ifaces, maps, wideKeys, modest, calm, conditions, laid).
  DERIVED. THE GIVEN ROWS OF THIS SEAT. 5 by the template 'for every input the law returns true; each argument reads behind the call as it read before'; 0 by the template 'total and deterministic' (their statements: YtoeilckeebojmaaTotals.lean).
  GIVEN WITH THE SEED: the statements are not yours to turn. If you find one false, say at which input.
  Laid BY PROGRAM, IN A SANDBOX (cutbox-rows.mjs): the forced cells as the released guide's own fill.sh prints them over the translation 38ae868091dcbfce… (all of the seat's roots in one cut). By AI agents, Wed Nov 11 2026. No macro, syntax, notation, axiom, sorry.
-/
import Derived.Test.YtoeilckeebojmaaChecked
import GoSem.Claim
import GoSem.ClaimJoined
import GoSem.ClaimMapViews
import Derived.JoinedTies
import Derived.KernelRfl
namespace Go.Proofs.Ytoeilckeebojmaa
/- THE CELL 'sum', in the pinned program and in every row, IS THE sha256 OF THE DUMP (.gsa) THAT YtoeilckeebojmaaProg.lean LOADS. Nothing in Lean hashes anything: it is a label: what it is worth is what the hold of that sum in a sandbox is worth. -/
noncomputable def Try.pinned : Pinned := { name := "ytoeilckeebojmaa", sum := "38ae868091dcbfce046cbc74638ca496025c471ff3cc462a30bbb102c2a56901", checked := Try.checked }
namespace Rows
def none {H : Type} : Left H := { results := [], args := [] }

/-- 'estuarylaw16.BasinParts': WHATEVER THE INPUT: true; the input reads as it did. -/
def basinPartsSpec : ChangeSpec := { name := "basinParts", fn := fun _ => fun
  | [d1, d2, d3] => { results := [.lit (.bool true)], args := [d1, d2, d3] }
  | _ => none }
def basinPartsRow : OpenClaim := { program := "ytoeilckeebojmaa", sum := "38ae868091dcbfce046cbc74638ca496025c471ff3cc462a30bbb102c2a56901", func := "estuary/estuarylaw16.BasinParts", spec := "basinParts", inPlace := ["math/bits.Add64"], unfollowed := true, recurses := true, plainKeys := false, apart := false }
def BasinPartsSaid : Prop := basinPartsRow.holds Try.pinned (OpenSpec.ofChange basinPartsSpec)

/-- ITS FALSE NEIGHBOUR: 'it returns false'. Refute it at one input. -/
def basinPartsWrong : ChangeSpec := { name := "basinParts", fn := fun _ => fun
  | [d1, d2, d3] => { results := [.lit (.bool false)], args := [d1, d2, d3] }
  | _ => none }
def BasinPartsWrongFalsely : Prop := basinPartsRow.holds Try.pinned (OpenSpec.ofChange basinPartsWrong)

/-- 'estuarylaw16.BasinFull': WHATEVER THE INPUT: true; the input reads as it did. -/
def basinFullSpec : ChangeSpec := { name := "basinFull", fn := fun _ => fun
  | [d] => { results := [.lit (.bool true)], args := [d] }
  | _ => none }
def basinFullRow : OpenClaim := { program := "ytoeilckeebojmaa", sum := "38ae868091dcbfce046cbc74638ca496025c471ff3cc462a30bbb102c2a56901", func := "estuary/estuarylaw16.BasinFull", spec := "basinFull", inPlace := ["math/bits.Add64"], unfollowed := true, recurses := true, plainKeys := false, apart := false }
def BasinFullSaid : Prop := basinFullRow.holds Try.pinned (OpenSpec.ofChange basinFullSpec)

/-- ITS FALSE NEIGHBOUR: 'it returns false'. Refute it at one input. -/
def basinFullWrong : ChangeSpec := { name := "basinFull", fn := fun _ => fun
  | [d] => { results := [.lit (.bool false)], args := [d] }
  | _ => none }
def BasinFullWrongFalsely : Prop := basinFullRow.holds Try.pinned (OpenSpec.ofChange basinFullWrong)

/-- 'estuarylaw16.BasinCloses': WHATEVER THE INPUT: true; the input reads as it did. -/
def basinClosesSpec : ChangeSpec := { name := "basinCloses", fn := fun _ => fun
  | [d1, d2, d3] => { results := [.lit (.bool true)], args := [d1, d2, d3] }
  | _ => none }
def basinClosesRow : OpenClaim := { program := "ytoeilckeebojmaa", sum := "38ae868091dcbfce046cbc74638ca496025c471ff3cc462a30bbb102c2a56901", func := "estuary/estuarylaw16.BasinCloses", spec := "basinCloses", inPlace := ["math/bits.Add64"], unfollowed := true, recurses := true, plainKeys := false, apart := false }
def BasinClosesSaid : Prop := basinClosesRow.holds Try.pinned (OpenSpec.ofChange basinClosesSpec)

/-- ITS FALSE NEIGHBOUR: 'it returns false'. Refute it at one input. -/
def basinClosesWrong : ChangeSpec := { name := "basinCloses", fn := fun _ => fun
  | [d1, d2, d3] => { results := [.lit (.bool false)], args := [d1, d2, d3] }
  | _ => none }
def BasinClosesWrongFalsely : Prop := basinClosesRow.holds Try.pinned (OpenSpec.ofChange basinClosesWrong)

/-- 'estuarylaw16.BasinNone': WHATEVER THE INPUT: true; the input reads as it did. -/
def basinNoneSpec : ChangeSpec := { name := "basinNone", fn := fun _ => fun
  | [d1, d2] => { results := [.lit (.bool true)], args := [d1, d2] }
  | _ => none }
def basinNoneRow : OpenClaim := { program := "ytoeilckeebojmaa", sum := "38ae868091dcbfce046cbc74638ca496025c471ff3cc462a30bbb102c2a56901", func := "estuary/estuarylaw16.BasinNone", spec := "basinNone", inPlace := ["math/bits.Add64"], unfollowed := true, recurses := true, plainKeys := false, apart := false }
def BasinNoneSaid : Prop := basinNoneRow.holds Try.pinned (OpenSpec.ofChange basinNoneSpec)

/-- ITS FALSE NEIGHBOUR: 'it returns false'. Refute it at one input. -/
def basinNoneWrong : ChangeSpec := { name := "basinNone", fn := fun _ => fun
  | [d1, d2] => { results := [.lit (.bool false)], args := [d1, d2] }
  | _ => none }
def BasinNoneWrongFalsely : Prop := basinNoneRow.holds Try.pinned (OpenSpec.ofChange basinNoneWrong)

/-- 'estuarylaw16.BasinOrder': WHATEVER THE INPUT: true; the input reads as it did. -/
def basinOrderSpec : ChangeSpec := { name := "basinOrder", fn := fun _ => fun
  | [d1, d2, d3] => { results := [.lit (.bool true)], args := [d1, d2, d3] }
  | _ => none }
def basinOrderRow : OpenClaim := { program := "ytoeilckeebojmaa", sum := "38ae868091dcbfce046cbc74638ca496025c471ff3cc462a30bbb102c2a56901", func := "estuary/estuarylaw16.BasinOrder", spec := "basinOrder", inPlace := ["math/bits.Add64"], unfollowed := true, recurses := true, plainKeys := false, apart := false }
def BasinOrderSaid : Prop := basinOrderRow.holds Try.pinned (OpenSpec.ofChange basinOrderSpec)

/-- ITS FALSE NEIGHBOUR: 'it returns false'. Refute it at one input. -/
def basinOrderWrong : ChangeSpec := { name := "basinOrder", fn := fun _ => fun
  | [d1, d2, d3] => { results := [.lit (.bool false)], args := [d1, d2, d3] }
  | _ => none }
def BasinOrderWrongFalsely : Prop := basinOrderRow.holds Try.pinned (OpenSpec.ofChange basinOrderWrong)

/- THE SECOND FORM. 'bulk': how many values and letters a reading holds, each counted each time it is reached (what is shared counts as often as it is met; a slice's spare places count too). A statement '..UptoSaid' is the law's where the arguments, and the package variables that the reading takes, are together of bulk at most 1048576: NARROWER than '..Said'. Prove '..Said' where nothing that the law and all that it calls make is longer than what came in: it says more and counts as full. Else prove '..UptoSaid'. A law counts once. -/
mutual
def uptoBulk {H : Type} : DataW H → Nat
  | .lit (.string bytes) => bytes.length + 1
  | .lit _ => 1
  | .nil => 1
  | .ptr d => uptoBulk d + 1
  | .slice elems spare => uptoBulkAll elems + uptoBulkAll spare + 1
  | .agg parts => uptoBulkAll parts + 1
  | .iface _ d => uptoBulk d + 1
  | .map entries => uptoBulkEntries entries + 1
  | .held _ => 1
def uptoBulkAll {H : Type} : List (DataW H) → Nat
  | [] => 0
  | d :: r => uptoBulk d + uptoBulkAll r
def uptoBulkEntries {H : Type} : List (Lit × DataW H) → Nat
  | [] => 0
  | x :: r => uptoBulkEntry x + uptoBulkEntries r
def uptoBulkEntry {H : Type} : Lit × DataW H → Nat
  | (.string bytes, d) => bytes.length + uptoBulk d + 1
  | (_, d) => uptoBulk d + 1
 end
def uptoSmall : (H : Type) → List (DataW H) → Bool := fun _ ds => decide (uptoBulkAll ds ≤ 1048576)
def OpenSpec.upto (s : _root_.Go.ChangeSpec) : _root_.Go.OpenSpec := { _root_.Go.OpenSpec.ofChange s with cond := some uptoSmall }

/-- 'estuarylaw16.BasinParts', WHERE WHAT IT READS IS OF BULK AT MOST 1048576: true; the input reads as it did. -/
def basinPartsUptoRow : OpenClaim := { program := "ytoeilckeebojmaa", sum := "38ae868091dcbfce046cbc74638ca496025c471ff3cc462a30bbb102c2a56901", func := "estuary/estuarylaw16.BasinParts", spec := "basinParts", inPlace := ["math/bits.Add64"], unfollowed := true, recurses := true, plainKeys := false, apart := false, narrowed := true }
def BasinPartsUptoSaid : Prop := basinPartsUptoRow.holds Try.pinned (OpenSpec.upto basinPartsSpec)

/-- 'estuarylaw16.BasinFull', WHERE WHAT IT READS IS OF BULK AT MOST 1048576: true; the input reads as it did. -/
def basinFullUptoRow : OpenClaim := { program := "ytoeilckeebojmaa", sum := "38ae868091dcbfce046cbc74638ca496025c471ff3cc462a30bbb102c2a56901", func := "estuary/estuarylaw16.BasinFull", spec := "basinFull", inPlace := ["math/bits.Add64"], unfollowed := true, recurses := true, plainKeys := false, apart := false, narrowed := true }
def BasinFullUptoSaid : Prop := basinFullUptoRow.holds Try.pinned (OpenSpec.upto basinFullSpec)

/-- 'estuarylaw16.BasinCloses', WHERE WHAT IT READS IS OF BULK AT MOST 1048576: true; the input reads as it did. -/
def basinClosesUptoRow : OpenClaim := { program := "ytoeilckeebojmaa", sum := "38ae868091dcbfce046cbc74638ca496025c471ff3cc462a30bbb102c2a56901", func := "estuary/estuarylaw16.BasinCloses", spec := "basinCloses", inPlace := ["math/bits.Add64"], unfollowed := true, recurses := true, plainKeys := false, apart := false, narrowed := true }
def BasinClosesUptoSaid : Prop := basinClosesUptoRow.holds Try.pinned (OpenSpec.upto basinClosesSpec)

/-- 'estuarylaw16.BasinNone', WHERE WHAT IT READS IS OF BULK AT MOST 1048576: true; the input reads as it did. -/
def basinNoneUptoRow : OpenClaim := { program := "ytoeilckeebojmaa", sum := "38ae868091dcbfce046cbc74638ca496025c471ff3cc462a30bbb102c2a56901", func := "estuary/estuarylaw16.BasinNone", spec := "basinNone", inPlace := ["math/bits.Add64"], unfollowed := true, recurses := true, plainKeys := false, apart := false, narrowed := true }
def BasinNoneUptoSaid : Prop := basinNoneUptoRow.holds Try.pinned (OpenSpec.upto basinNoneSpec)

/-- 'estuarylaw16.BasinOrder', WHERE WHAT IT READS IS OF BULK AT MOST 1048576: true; the input reads as it did. -/
def basinOrderUptoRow : OpenClaim := { program := "ytoeilckeebojmaa", sum := "38ae868091dcbfce046cbc74638ca496025c471ff3cc462a30bbb102c2a56901", func := "estuary/estuarylaw16.BasinOrder", spec := "basinOrder", inPlace := ["math/bits.Add64"], unfollowed := true, recurses := true, plainKeys := false, apart := false, narrowed := true }
def BasinOrderUptoSaid : Prop := basinOrderUptoRow.holds Try.pinned (OpenSpec.upto basinOrderSpec)

end Rows
end Go.Proofs.Ytoeilckeebojmaa
