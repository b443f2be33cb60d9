/-
  No cell of these rows narrows 'for every input' (looked for: loops, veiled, ifaces, maps, wideKeys, modest, calm, conditions, laid).
  DERIVED. THE GIVEN ROWS OF THIS SEAT. 4 by the template 'for every input the law returns true; each argument reads behind the call as it read before'; 0 by the template 'total and deterministic' (their statements: YtahpnkdofnnolabTotals.lean).
  GIVEN WITH THE SEED: the statements are not yours to turn. If you find one false, say at which input.
  Laid BY PROGRAM, IN A SANDBOX (cutbox-rows.mjs): the forced cells as the released guide's own fill.sh prints them over the translation 834631e5940fedfe… (all of the seat's roots in one cut). By AI agents, Wed Nov 11 2026. No macro, syntax, notation, axiom, sorry.
-/
import Derived.Test.YtahpnkdofnnolabChecked
import GoSem.Claim
import GoSem.ClaimJoined
import GoSem.ClaimMapViews
import Derived.JoinedTies
import Derived.KernelRfl
namespace Go.Proofs.Ytahpnkdofnnolab
/- THE CELL 'sum', in the pinned program and in every row, IS THE sha256 OF THE DUMP (.gsa) THAT YtahpnkdofnnolabProg.lean LOADS. Nothing in Lean hashes anything: it is a label: what it is worth is what the hold of that sum in a sandbox is worth. -/
noncomputable def Try.pinned : Pinned := { name := "ytahpnkdofnnolab", sum := "834631e5940fedfe81913ecd002796b317395425d87d4dc615889e1a5424f656", checked := Try.checked }
namespace Rows
def none {H : Type} : Left H := { results := [], args := [] }

/-- 'estuarylaw01.FloorTexts': WHATEVER THE INPUT: true; the input reads as it did. -/
def floorTextsSpec : ChangeSpec := { name := "floorTexts", fn := fun _ => fun
  | [d1, d2] => { results := [.lit (.bool true)], args := [d1, d2] }
  | _ => none }
def floorTextsRow : OpenClaim := { program := "ytahpnkdofnnolab", sum := "834631e5940fedfe81913ecd002796b317395425d87d4dc615889e1a5424f656", func := "estuary/estuarylaw01.FloorTexts", spec := "floorTexts", inPlace := ["math/bits.Add64"], named := ["math/bits.divideError", "math/bits.overflowError"], apart := false }
def FloorTextsSaid : Prop := floorTextsRow.holds Try.pinned (OpenSpec.ofChange floorTextsSpec)

/-- ITS FALSE NEIGHBOUR: 'it returns false'. Refute it at one input. -/
def floorTextsWrong : ChangeSpec := { name := "floorTexts", fn := fun _ => fun
  | [d1, d2] => { results := [.lit (.bool false)], args := [d1, d2] }
  | _ => none }
def FloorTextsWrongFalsely : Prop := floorTextsRow.holds Try.pinned (OpenSpec.ofChange floorTextsWrong)

/-- 'estuarylaw01.FloorBack': WHATEVER THE INPUT: true; the input reads as it did. -/
def floorBackSpec : ChangeSpec := { name := "floorBack", fn := fun _ => fun
  | [d1, d2] => { results := [.lit (.bool true)], args := [d1, d2] }
  | _ => none }
def floorBackRow : OpenClaim := { program := "ytahpnkdofnnolab", sum := "834631e5940fedfe81913ecd002796b317395425d87d4dc615889e1a5424f656", func := "estuary/estuarylaw01.FloorBack", spec := "floorBack", inPlace := ["math/bits.Add64"], named := ["math/bits.divideError", "math/bits.overflowError"], apart := false }
def FloorBackSaid : Prop := floorBackRow.holds Try.pinned (OpenSpec.ofChange floorBackSpec)

/-- ITS FALSE NEIGHBOUR: 'it returns false'. Refute it at one input. -/
def floorBackWrong : ChangeSpec := { name := "floorBack", fn := fun _ => fun
  | [d1, d2] => { results := [.lit (.bool false)], args := [d1, d2] }
  | _ => none }
def FloorBackWrongFalsely : Prop := floorBackRow.holds Try.pinned (OpenSpec.ofChange floorBackWrong)

/-- 'estuarylaw01.FloorShifts': WHATEVER THE INPUT: true; the input reads as it did. -/
def floorShiftsSpec : ChangeSpec := { name := "floorShifts", fn := fun _ => fun
  | [d1, d2] => { results := [.lit (.bool true)], args := [d1, d2] }
  | _ => none }
def floorShiftsRow : OpenClaim := { program := "ytahpnkdofnnolab", sum := "834631e5940fedfe81913ecd002796b317395425d87d4dc615889e1a5424f656", func := "estuary/estuarylaw01.FloorShifts", spec := "floorShifts", inPlace := ["math/bits.Add64"], named := ["math/bits.divideError", "math/bits.overflowError"], apart := false }
def FloorShiftsSaid : Prop := floorShiftsRow.holds Try.pinned (OpenSpec.ofChange floorShiftsSpec)

/-- ITS FALSE NEIGHBOUR: 'it returns false'. Refute it at one input. -/
def floorShiftsWrong : ChangeSpec := { name := "floorShifts", fn := fun _ => fun
  | [d1, d2] => { results := [.lit (.bool false)], args := [d1, d2] }
  | _ => none }
def FloorShiftsWrongFalsely : Prop := floorShiftsRow.holds Try.pinned (OpenSpec.ofChange floorShiftsWrong)

/-- 'estuarylaw01.FloorNests': WHATEVER THE INPUT: true; the input reads as it did. -/
def floorNestsSpec : ChangeSpec := { name := "floorNests", fn := fun _ => fun
  | [d1, d2, d3] => { results := [.lit (.bool true)], args := [d1, d2, d3] }
  | _ => none }
def floorNestsRow : OpenClaim := { program := "ytahpnkdofnnolab", sum := "834631e5940fedfe81913ecd002796b317395425d87d4dc615889e1a5424f656", func := "estuary/estuarylaw01.FloorNests", spec := "floorNests", inPlace := ["math/bits.Add64"], named := ["math/bits.divideError", "math/bits.overflowError"], apart := false }
def FloorNestsSaid : Prop := floorNestsRow.holds Try.pinned (OpenSpec.ofChange floorNestsSpec)

/-- ITS FALSE NEIGHBOUR: 'it returns false'. Refute it at one input. -/
def floorNestsWrong : ChangeSpec := { name := "floorNests", fn := fun _ => fun
  | [d1, d2, d3] => { results := [.lit (.bool false)], args := [d1, d2, d3] }
  | _ => none }
def FloorNestsWrongFalsely : Prop := floorNestsRow.holds Try.pinned (OpenSpec.ofChange floorNestsWrong)

/- THE SECOND FORM. 'bulk': how many values and letters a reading holds, each counted each time it is reached (what is shared counts as often as it is met; a slice's spare places count too). A statement '..UptoSaid' is the law's where the arguments, and the package variables that the reading takes, are together of bulk at most 1048576: NARROWER than '..Said'. Prove '..Said' where nothing that the law and all that it calls make is longer than what came in: it says more and counts as full. Else prove '..UptoSaid'. A law counts once. -/
mutual
def uptoBulk {H : Type} : DataW H → Nat
  | .lit (.string bytes) => bytes.length + 1
  | .lit _ => 1
  | .nil => 1
  | .ptr d => uptoBulk d + 1
  | .slice elems spare => uptoBulkAll elems + uptoBulkAll spare + 1
  | .agg parts => uptoBulkAll parts + 1
  | .iface _ d => uptoBulk d + 1
  | .map entries => uptoBulkEntries entries + 1
  | .held _ => 1
def uptoBulkAll {H : Type} : List (DataW H) → Nat
  | [] => 0
  | d :: r => uptoBulk d + uptoBulkAll r
def uptoBulkEntries {H : Type} : List (Lit × DataW H) → Nat
  | [] => 0
  | x :: r => uptoBulkEntry x + uptoBulkEntries r
def uptoBulkEntry {H : Type} : Lit × DataW H → Nat
  | (.string bytes, d) => bytes.length + uptoBulk d + 1
  | (_, d) => uptoBulk d + 1
 end
def uptoSmall : (H : Type) → List (DataW H) → Bool := fun _ ds => decide (uptoBulkAll ds ≤ 1048576)
def OpenSpec.upto (s : _root_.Go.ChangeSpec) : _root_.Go.OpenSpec := { _root_.Go.OpenSpec.ofChange s with cond := some uptoSmall }

/-- 'estuarylaw01.FloorTexts', WHERE WHAT IT READS IS OF BULK AT MOST 1048576: true; the input reads as it did. -/
def floorTextsUptoRow : OpenClaim := { program := "ytahpnkdofnnolab", sum := "834631e5940fedfe81913ecd002796b317395425d87d4dc615889e1a5424f656", func := "estuary/estuarylaw01.FloorTexts", spec := "floorTexts", inPlace := ["math/bits.Add64"], named := ["math/bits.divideError", "math/bits.overflowError"], apart := false, narrowed := true }
def FloorTextsUptoSaid : Prop := floorTextsUptoRow.holds Try.pinned (OpenSpec.upto floorTextsSpec)

/-- 'estuarylaw01.FloorBack', WHERE WHAT IT READS IS OF BULK AT MOST 1048576: true; the input reads as it did. -/
def floorBackUptoRow : OpenClaim := { program := "ytahpnkdofnnolab", sum := "834631e5940fedfe81913ecd002796b317395425d87d4dc615889e1a5424f656", func := "estuary/estuarylaw01.FloorBack", spec := "floorBack", inPlace := ["math/bits.Add64"], named := ["math/bits.divideError", "math/bits.overflowError"], apart := false, narrowed := true }
def FloorBackUptoSaid : Prop := floorBackUptoRow.holds Try.pinned (OpenSpec.upto floorBackSpec)

/-- 'estuarylaw01.FloorShifts', WHERE WHAT IT READS IS OF BULK AT MOST 1048576: true; the input reads as it did. -/
def floorShiftsUptoRow : OpenClaim := { program := "ytahpnkdofnnolab", sum := "834631e5940fedfe81913ecd002796b317395425d87d4dc615889e1a5424f656", func := "estuary/estuarylaw01.FloorShifts", spec := "floorShifts", inPlace := ["math/bits.Add64"], named := ["math/bits.divideError", "math/bits.overflowError"], apart := false, narrowed := true }
def FloorShiftsUptoSaid : Prop := floorShiftsUptoRow.holds Try.pinned (OpenSpec.upto floorShiftsSpec)

/-- 'estuarylaw01.FloorNests', WHERE WHAT IT READS IS OF BULK AT MOST 1048576: true; the input reads as it did. -/
def floorNestsUptoRow : OpenClaim := { program := "ytahpnkdofnnolab", sum := "834631e5940fedfe81913ecd002796b317395425d87d4dc615889e1a5424f656", func := "estuary/estuarylaw01.FloorNests", spec := "floorNests", inPlace := ["math/bits.Add64"], named := ["math/bits.divideError", "math/bits.overflowError"], apart := false, narrowed := true }
def FloorNestsUptoSaid : Prop := floorNestsUptoRow.holds Try.pinned (OpenSpec.upto floorNestsSpec)

end Rows
end Go.Proofs.Ytahpnkdofnnolab
