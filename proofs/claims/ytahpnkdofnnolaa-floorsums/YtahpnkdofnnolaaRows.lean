/-
  No cell of these rows narrows 'for every input' (looked for: loops, veiled, ifaces, maps, wideKeys, modest, calm, conditions, laid).
  DERIVED. THE GIVEN ROWS OF THIS SEAT. 6 by the template 'for every input the law returns true; each argument reads behind the call as it read before'; 0 by the template 'total and deterministic' (their statements: YtahpnkdofnnolaaTotals.lean).
  GIVEN WITH THE SEED: the statements are not yours to turn. If you find one false, say at which input.
  Laid BY PROGRAM, IN A SANDBOX (cutbox-rows.mjs): the forced cells as the released guide's own fill.sh prints them over the translation 6c237381c3218e57… (all of the seat's roots in one cut). By AI agents, Wed Nov 11 2026. No macro, syntax, notation, axiom, sorry.
-/
import Derived.Test.YtahpnkdofnnolaaChecked
import GoSem.Claim
import GoSem.ClaimJoined
import GoSem.ClaimMapViews
import Derived.JoinedTies
import Derived.KernelRfl
namespace Go.Proofs.Ytahpnkdofnnolaa
/- THE CELL 'sum', in the pinned program and in every row, IS THE sha256 OF THE DUMP (.gsa) THAT YtahpnkdofnnolaaProg.lean LOADS. Nothing in Lean hashes anything: it is a label: what it is worth is what the hold of that sum in a sandbox is worth. -/
noncomputable def Try.pinned : Pinned := { name := "ytahpnkdofnnolaa", sum := "6c237381c3218e57ee3065cae4926dba37f1e7348d0ef673fa30a08be2df56c7", checked := Try.checked }
namespace Rows
def none {H : Type} : Left H := { results := [], args := [] }

/-- 'estuarylaw01.FloorDivides': WHATEVER THE INPUT: true; the input reads as it did. -/
def floorDividesSpec : ChangeSpec := { name := "floorDivides", fn := fun _ => fun
  | [d1, d2] => { results := [.lit (.bool true)], args := [d1, d2] }
  | _ => none }
def floorDividesRow : OpenClaim := { program := "ytahpnkdofnnolaa", sum := "6c237381c3218e57ee3065cae4926dba37f1e7348d0ef673fa30a08be2df56c7", func := "estuary/estuarylaw01.FloorDivides", spec := "floorDivides", inPlace := ["math/bits.Add64"], named := ["math/bits.divideError", "math/bits.overflowError"], apart := false }
def FloorDividesSaid : Prop := floorDividesRow.holds Try.pinned (OpenSpec.ofChange floorDividesSpec)

/-- ITS FALSE NEIGHBOUR: 'it returns false'. Refute it at one input. -/
def floorDividesWrong : ChangeSpec := { name := "floorDivides", fn := fun _ => fun
  | [d1, d2] => { results := [.lit (.bool false)], args := [d1, d2] }
  | _ => none }
def FloorDividesWrongFalsely : Prop := floorDividesRow.holds Try.pinned (OpenSpec.ofChange floorDividesWrong)

/-- 'estuarylaw01.FloorRises': WHATEVER THE INPUT: true; the input reads as it did. -/
def floorRisesSpec : ChangeSpec := { name := "floorRises", fn := fun _ => fun
  | [d] => { results := [.lit (.bool true)], args := [d] }
  | _ => none }
def floorRisesRow : OpenClaim := { program := "ytahpnkdofnnolaa", sum := "6c237381c3218e57ee3065cae4926dba37f1e7348d0ef673fa30a08be2df56c7", func := "estuary/estuarylaw01.FloorRises", spec := "floorRises", inPlace := ["math/bits.Add64"], named := ["math/bits.divideError", "math/bits.overflowError"], apart := false }
def FloorRisesSaid : Prop := floorRisesRow.holds Try.pinned (OpenSpec.ofChange floorRisesSpec)

/-- ITS FALSE NEIGHBOUR: 'it returns false'. Refute it at one input. -/
def floorRisesWrong : ChangeSpec := { name := "floorRises", fn := fun _ => fun
  | [d] => { results := [.lit (.bool false)], args := [d] }
  | _ => none }
def FloorRisesWrongFalsely : Prop := floorRisesRow.holds Try.pinned (OpenSpec.ofChange floorRisesWrong)

/-- 'estuarylaw01.FloorBits': WHATEVER THE INPUT: true; the input reads as it did. -/
def floorBitsSpec : ChangeSpec := { name := "floorBits", fn := fun _ => fun
  | [d] => { results := [.lit (.bool true)], args := [d] }
  | _ => none }
def floorBitsRow : OpenClaim := { program := "ytahpnkdofnnolaa", sum := "6c237381c3218e57ee3065cae4926dba37f1e7348d0ef673fa30a08be2df56c7", func := "estuary/estuarylaw01.FloorBits", spec := "floorBits", inPlace := ["math/bits.Add64"], named := ["math/bits.divideError", "math/bits.overflowError"], apart := false }
def FloorBitsSaid : Prop := floorBitsRow.holds Try.pinned (OpenSpec.ofChange floorBitsSpec)

/-- ITS FALSE NEIGHBOUR: 'it returns false'. Refute it at one input. -/
def floorBitsWrong : ChangeSpec := { name := "floorBits", fn := fun _ => fun
  | [d] => { results := [.lit (.bool false)], args := [d] }
  | _ => none }
def FloorBitsWrongFalsely : Prop := floorBitsRow.holds Try.pinned (OpenSpec.ofChange floorBitsWrong)

/-- 'estuarylaw01.FloorSums': WHATEVER THE INPUT: true; the input reads as it did. -/
def floorSumsSpec : ChangeSpec := { name := "floorSums", fn := fun _ => fun
  | [d1, d2] => { results := [.lit (.bool true)], args := [d1, d2] }
  | _ => none }
def floorSumsRow : OpenClaim := { program := "ytahpnkdofnnolaa", sum := "6c237381c3218e57ee3065cae4926dba37f1e7348d0ef673fa30a08be2df56c7", func := "estuary/estuarylaw01.FloorSums", spec := "floorSums", inPlace := ["math/bits.Add64"], named := ["math/bits.divideError", "math/bits.overflowError"], apart := false }
def FloorSumsSaid : Prop := floorSumsRow.holds Try.pinned (OpenSpec.ofChange floorSumsSpec)

/-- ITS FALSE NEIGHBOUR: 'it returns false'. Refute it at one input. -/
def floorSumsWrong : ChangeSpec := { name := "floorSums", fn := fun _ => fun
  | [d1, d2] => { results := [.lit (.bool false)], args := [d1, d2] }
  | _ => none }
def FloorSumsWrongFalsely : Prop := floorSumsRow.holds Try.pinned (OpenSpec.ofChange floorSumsWrong)

/-- 'estuarylaw01.FloorGroup': WHATEVER THE INPUT: true; the input reads as it did. -/
def floorGroupSpec : ChangeSpec := { name := "floorGroup", fn := fun _ => fun
  | [d1, d2, d3] => { results := [.lit (.bool true)], args := [d1, d2, d3] }
  | _ => none }
def floorGroupRow : OpenClaim := { program := "ytahpnkdofnnolaa", sum := "6c237381c3218e57ee3065cae4926dba37f1e7348d0ef673fa30a08be2df56c7", func := "estuary/estuarylaw01.FloorGroup", spec := "floorGroup", inPlace := ["math/bits.Add64"], named := ["math/bits.divideError", "math/bits.overflowError"], apart := false }
def FloorGroupSaid : Prop := floorGroupRow.holds Try.pinned (OpenSpec.ofChange floorGroupSpec)

/-- ITS FALSE NEIGHBOUR: 'it returns false'. Refute it at one input. -/
def floorGroupWrong : ChangeSpec := { name := "floorGroup", fn := fun _ => fun
  | [d1, d2, d3] => { results := [.lit (.bool false)], args := [d1, d2, d3] }
  | _ => none }
def FloorGroupWrongFalsely : Prop := floorGroupRow.holds Try.pinned (OpenSpec.ofChange floorGroupWrong)

/-- 'estuarylaw01.FloorKeeps': WHATEVER THE INPUT: true; the input reads as it did. -/
def floorKeepsSpec : ChangeSpec := { name := "floorKeeps", fn := fun _ => fun
  | [d1, d2] => { results := [.lit (.bool true)], args := [d1, d2] }
  | _ => none }
def floorKeepsRow : OpenClaim := { program := "ytahpnkdofnnolaa", sum := "6c237381c3218e57ee3065cae4926dba37f1e7348d0ef673fa30a08be2df56c7", func := "estuary/estuarylaw01.FloorKeeps", spec := "floorKeeps", inPlace := ["math/bits.Add64"], named := ["math/bits.divideError", "math/bits.overflowError"], apart := false }
def FloorKeepsSaid : Prop := floorKeepsRow.holds Try.pinned (OpenSpec.ofChange floorKeepsSpec)

/-- ITS FALSE NEIGHBOUR: 'it returns false'. Refute it at one input. -/
def floorKeepsWrong : ChangeSpec := { name := "floorKeeps", fn := fun _ => fun
  | [d1, d2] => { results := [.lit (.bool false)], args := [d1, d2] }
  | _ => none }
def FloorKeepsWrongFalsely : Prop := floorKeepsRow.holds Try.pinned (OpenSpec.ofChange floorKeepsWrong)

/- THE SECOND FORM. 'bulk': how many values and letters a reading holds, each counted each time it is reached (what is shared counts as often as it is met; a slice's spare places count too). A statement '..UptoSaid' is the law's where the arguments, and the package variables that the reading takes, are together of bulk at most 1048576: NARROWER than '..Said'. Prove '..Said' where nothing that the law and all that it calls make is longer than what came in: it says more and counts as full. Else prove '..UptoSaid'. A law counts once. -/
mutual
def uptoBulk {H : Type} : DataW H → Nat
  | .lit (.string bytes) => bytes.length + 1
  | .lit _ => 1
  | .nil => 1
  | .ptr d => uptoBulk d + 1
  | .slice elems spare => uptoBulkAll elems + uptoBulkAll spare + 1
  | .agg parts => uptoBulkAll parts + 1
  | .iface _ d => uptoBulk d + 1
  | .map entries => uptoBulkEntries entries + 1
  | .held _ => 1
def uptoBulkAll {H : Type} : List (DataW H) → Nat
  | [] => 0
  | d :: r => uptoBulk d + uptoBulkAll r
def uptoBulkEntries {H : Type} : List (Lit × DataW H) → Nat
  | [] => 0
  | x :: r => uptoBulkEntry x + uptoBulkEntries r
def uptoBulkEntry {H : Type} : Lit × DataW H → Nat
  | (.string bytes, d) => bytes.length + uptoBulk d + 1
  | (_, d) => uptoBulk d + 1
 end
def uptoSmall : (H : Type) → List (DataW H) → Bool := fun _ ds => decide (uptoBulkAll ds ≤ 1048576)
def OpenSpec.upto (s : _root_.Go.ChangeSpec) : _root_.Go.OpenSpec := { _root_.Go.OpenSpec.ofChange s with cond := some uptoSmall }

/-- 'estuarylaw01.FloorDivides', WHERE WHAT IT READS IS OF BULK AT MOST 1048576: true; the input reads as it did. -/
def floorDividesUptoRow : OpenClaim := { program := "ytahpnkdofnnolaa", sum := "6c237381c3218e57ee3065cae4926dba37f1e7348d0ef673fa30a08be2df56c7", func := "estuary/estuarylaw01.FloorDivides", spec := "floorDivides", inPlace := ["math/bits.Add64"], named := ["math/bits.divideError", "math/bits.overflowError"], apart := false, narrowed := true }
def FloorDividesUptoSaid : Prop := floorDividesUptoRow.holds Try.pinned (OpenSpec.upto floorDividesSpec)

/-- 'estuarylaw01.FloorRises', WHERE WHAT IT READS IS OF BULK AT MOST 1048576: true; the input reads as it did. -/
def floorRisesUptoRow : OpenClaim := { program := "ytahpnkdofnnolaa", sum := "6c237381c3218e57ee3065cae4926dba37f1e7348d0ef673fa30a08be2df56c7", func := "estuary/estuarylaw01.FloorRises", spec := "floorRises", inPlace := ["math/bits.Add64"], named := ["math/bits.divideError", "math/bits.overflowError"], apart := false, narrowed := true }
def FloorRisesUptoSaid : Prop := floorRisesUptoRow.holds Try.pinned (OpenSpec.upto floorRisesSpec)

/-- 'estuarylaw01.FloorBits', WHERE WHAT IT READS IS OF BULK AT MOST 1048576: true; the input reads as it did. -/
def floorBitsUptoRow : OpenClaim := { program := "ytahpnkdofnnolaa", sum := "6c237381c3218e57ee3065cae4926dba37f1e7348d0ef673fa30a08be2df56c7", func := "estuary/estuarylaw01.FloorBits", spec := "floorBits", inPlace := ["math/bits.Add64"], named := ["math/bits.divideError", "math/bits.overflowError"], apart := false, narrowed := true }
def FloorBitsUptoSaid : Prop := floorBitsUptoRow.holds Try.pinned (OpenSpec.upto floorBitsSpec)

/-- 'estuarylaw01.FloorSums', WHERE WHAT IT READS IS OF BULK AT MOST 1048576: true; the input reads as it did. -/
def floorSumsUptoRow : OpenClaim := { program := "ytahpnkdofnnolaa", sum := "6c237381c3218e57ee3065cae4926dba37f1e7348d0ef673fa30a08be2df56c7", func := "estuary/estuarylaw01.FloorSums", spec := "floorSums", inPlace := ["math/bits.Add64"], named := ["math/bits.divideError", "math/bits.overflowError"], apart := false, narrowed := true }
def FloorSumsUptoSaid : Prop := floorSumsUptoRow.holds Try.pinned (OpenSpec.upto floorSumsSpec)

/-- 'estuarylaw01.FloorGroup', WHERE WHAT IT READS IS OF BULK AT MOST 1048576: true; the input reads as it did. -/
def floorGroupUptoRow : OpenClaim := { program := "ytahpnkdofnnolaa", sum := "6c237381c3218e57ee3065cae4926dba37f1e7348d0ef673fa30a08be2df56c7", func := "estuary/estuarylaw01.FloorGroup", spec := "floorGroup", inPlace := ["math/bits.Add64"], named := ["math/bits.divideError", "math/bits.overflowError"], apart := false, narrowed := true }
def FloorGroupUptoSaid : Prop := floorGroupUptoRow.holds Try.pinned (OpenSpec.upto floorGroupSpec)

/-- 'estuarylaw01.FloorKeeps', WHERE WHAT IT READS IS OF BULK AT MOST 1048576: true; the input reads as it did. -/
def floorKeepsUptoRow : OpenClaim := { program := "ytahpnkdofnnolaa", sum := "6c237381c3218e57ee3065cae4926dba37f1e7348d0ef673fa30a08be2df56c7", func := "estuary/estuarylaw01.FloorKeeps", spec := "floorKeeps", inPlace := ["math/bits.Add64"], named := ["math/bits.divideError", "math/bits.overflowError"], apart := false, narrowed := true }
def FloorKeepsUptoSaid : Prop := floorKeepsUptoRow.holds Try.pinned (OpenSpec.upto floorKeepsSpec)

end Rows
end Go.Proofs.Ytahpnkdofnnolaa
