/-
  No cell of these rows narrows 'for every input' (looked for: loops, veiled, ifaces, maps, wideKeys, modest, calm, conditions, laid).
  DERIVED. THE GIVEN ROWS OF THIS SEAT. 4 by the template 'for every input the law returns true; each argument reads behind the call as it read before'; 0 by the template 'total and deterministic' (their statements: YtlhamckpgijjmaaTotals.lean).
  GIVEN WITH THE SEED: the statements are not yours to turn. If you find one false, say at which input.
  Laid BY PROGRAM, IN A SANDBOX (cutbox-rows.mjs): the forced cells as the released guide's own fill.sh prints them over the translation 1855bf766385649d… (all of the seat's roots in one cut). By AI agents, Wed Nov 11 2026. No macro, syntax, notation, axiom, sorry.
-/
import Derived.Test.YtlhamckpgijjmaaChecked
import GoSem.Claim
import GoSem.ClaimJoined
import GoSem.ClaimMapViews
import Derived.JoinedTies
import Derived.KernelRfl
namespace Go.Proofs.Ytlhamckpgijjmaa
/- THE CELL 'sum', in the pinned program and in every row, IS THE sha256 OF THE DUMP (.gsa) THAT YtlhamckpgijjmaaProg.lean LOADS. Nothing in Lean hashes anything: it is a label: what it is worth is what the hold of that sum in a sandbox is worth. -/
noncomputable def Try.pinned : Pinned := { name := "ytlhamckpgijjmaa", sum := "1855bf766385649dd3c01eb655fa941cf7702f0316944d673e5b539883e68194", checked := Try.checked }
namespace Rows
def none {H : Type} : Left H := { results := [], args := [] }

/-- 'estuarylaw12.KeeperSure': WHATEVER THE INPUT: true; the input reads as it did. -/
def keeperSureSpec : ChangeSpec := { name := "keeperSure", fn := fun _ => fun
  | [d1, d2, d3] => { results := [.lit (.bool true)], args := [d1, d2, d3] }
  | _ => none }
def keeperSureRow : OpenClaim := { program := "ytlhamckpgijjmaa", sum := "1855bf766385649dd3c01eb655fa941cf7702f0316944d673e5b539883e68194", func := "estuary/estuarylaw12.KeeperSure", spec := "keeperSure", inPlace := ["internal/reflectlite.TypeOf"], unfollowed := true, recurses := true, apart := false }
def KeeperSureSaid : Prop := keeperSureRow.holds Try.pinned (OpenSpec.ofChange keeperSureSpec)

/-- ITS FALSE NEIGHBOUR: 'it returns false'. Refute it at one input. -/
def keeperSureWrong : ChangeSpec := { name := "keeperSure", fn := fun _ => fun
  | [d1, d2, d3] => { results := [.lit (.bool false)], args := [d1, d2, d3] }
  | _ => none }
def KeeperSureWrongFalsely : Prop := keeperSureRow.holds Try.pinned (OpenSpec.ofChange keeperSureWrong)

/-- 'estuarylaw12.KeeperRewrites': WHATEVER THE INPUT: true; the input reads as it did. -/
def keeperRewritesSpec : ChangeSpec := { name := "keeperRewrites", fn := fun _ => fun
  | [d1, d2] => { results := [.lit (.bool true)], args := [d1, d2] }
  | _ => none }
def keeperRewritesRow : OpenClaim := { program := "ytlhamckpgijjmaa", sum := "1855bf766385649dd3c01eb655fa941cf7702f0316944d673e5b539883e68194", func := "estuary/estuarylaw12.KeeperRewrites", spec := "keeperRewrites", inPlace := ["internal/reflectlite.TypeOf"], unfollowed := true, recurses := true, apart := false }
def KeeperRewritesSaid : Prop := keeperRewritesRow.holds Try.pinned (OpenSpec.ofChange keeperRewritesSpec)

/-- ITS FALSE NEIGHBOUR: 'it returns false'. Refute it at one input. -/
def keeperRewritesWrong : ChangeSpec := { name := "keeperRewrites", fn := fun _ => fun
  | [d1, d2] => { results := [.lit (.bool false)], args := [d1, d2] }
  | _ => none }
def KeeperRewritesWrongFalsely : Prop := keeperRewritesRow.holds Try.pinned (OpenSpec.ofChange keeperRewritesWrong)

/-- 'estuarylaw12.KeeperNone': WHATEVER THE INPUT: true; the input reads as it did. -/
def keeperNoneSpec : ChangeSpec := { name := "keeperNone", fn := fun _ => fun
  | [d] => { results := [.lit (.bool true)], args := [d] }
  | _ => none }
def keeperNoneRow : OpenClaim := { program := "ytlhamckpgijjmaa", sum := "1855bf766385649dd3c01eb655fa941cf7702f0316944d673e5b539883e68194", func := "estuary/estuarylaw12.KeeperNone", spec := "keeperNone", inPlace := ["internal/reflectlite.TypeOf"], unfollowed := true, recurses := true, apart := false }
def KeeperNoneSaid : Prop := keeperNoneRow.holds Try.pinned (OpenSpec.ofChange keeperNoneSpec)

/-- ITS FALSE NEIGHBOUR: 'it returns false'. Refute it at one input. -/
def keeperNoneWrong : ChangeSpec := { name := "keeperNone", fn := fun _ => fun
  | [d] => { results := [.lit (.bool false)], args := [d] }
  | _ => none }
def KeeperNoneWrongFalsely : Prop := keeperNoneRow.holds Try.pinned (OpenSpec.ofChange keeperNoneWrong)

/-- 'estuarylaw12.KeeperApart': WHATEVER THE INPUT: true; the input reads as it did. -/
def keeperApartSpec : ChangeSpec := { name := "keeperApart", fn := fun _ => fun
  | [d1, d2] => { results := [.lit (.bool true)], args := [d1, d2] }
  | _ => none }
def keeperApartRow : OpenClaim := { program := "ytlhamckpgijjmaa", sum := "1855bf766385649dd3c01eb655fa941cf7702f0316944d673e5b539883e68194", func := "estuary/estuarylaw12.KeeperApart", spec := "keeperApart", inPlace := ["internal/reflectlite.TypeOf"], unfollowed := true, recurses := true, apart := false }
def KeeperApartSaid : Prop := keeperApartRow.holds Try.pinned (OpenSpec.ofChange keeperApartSpec)

/-- ITS FALSE NEIGHBOUR: 'it returns false'. Refute it at one input. -/
def keeperApartWrong : ChangeSpec := { name := "keeperApart", fn := fun _ => fun
  | [d1, d2] => { results := [.lit (.bool false)], args := [d1, d2] }
  | _ => none }
def KeeperApartWrongFalsely : Prop := keeperApartRow.holds Try.pinned (OpenSpec.ofChange keeperApartWrong)

/- THE SECOND FORM. 'bulk': how many values and letters a reading holds, each counted each time it is reached (what is shared counts as often as it is met; a slice's spare places count too). A statement '..UptoSaid' is the law's where the arguments, and the package variables that the reading takes, are together of bulk at most 1048576: NARROWER than '..Said'. Prove '..Said' where nothing that the law and all that it calls make is longer than what came in: it says more and counts as full. Else prove '..UptoSaid'. A law counts once. -/
mutual
def uptoBulk {H : Type} : DataW H → Nat
  | .lit (.string bytes) => bytes.length + 1
  | .lit _ => 1
  | .nil => 1
  | .ptr d => uptoBulk d + 1
  | .slice elems spare => uptoBulkAll elems + uptoBulkAll spare + 1
  | .agg parts => uptoBulkAll parts + 1
  | .iface _ d => uptoBulk d + 1
  | .map entries => uptoBulkEntries entries + 1
  | .held _ => 1
def uptoBulkAll {H : Type} : List (DataW H) → Nat
  | [] => 0
  | d :: r => uptoBulk d + uptoBulkAll r
def uptoBulkEntries {H : Type} : List (Lit × DataW H) → Nat
  | [] => 0
  | x :: r => uptoBulkEntry x + uptoBulkEntries r
def uptoBulkEntry {H : Type} : Lit × DataW H → Nat
  | (.string bytes, d) => bytes.length + uptoBulk d + 1
  | (_, d) => uptoBulk d + 1
 end
def uptoSmall : (H : Type) → List (DataW H) → Bool := fun _ ds => decide (uptoBulkAll ds ≤ 1048576)
def OpenSpec.upto (s : _root_.Go.ChangeSpec) : _root_.Go.OpenSpec := { _root_.Go.OpenSpec.ofChange s with cond := some uptoSmall }

/-- 'estuarylaw12.KeeperSure', WHERE WHAT IT READS IS OF BULK AT MOST 1048576: true; the input reads as it did. -/
def keeperSureUptoRow : OpenClaim := { program := "ytlhamckpgijjmaa", sum := "1855bf766385649dd3c01eb655fa941cf7702f0316944d673e5b539883e68194", func := "estuary/estuarylaw12.KeeperSure", spec := "keeperSure", inPlace := ["internal/reflectlite.TypeOf"], unfollowed := true, recurses := true, apart := false, narrowed := true }
def KeeperSureUptoSaid : Prop := keeperSureUptoRow.holds Try.pinned (OpenSpec.upto keeperSureSpec)

/-- 'estuarylaw12.KeeperRewrites', WHERE WHAT IT READS IS OF BULK AT MOST 1048576: true; the input reads as it did. -/
def keeperRewritesUptoRow : OpenClaim := { program := "ytlhamckpgijjmaa", sum := "1855bf766385649dd3c01eb655fa941cf7702f0316944d673e5b539883e68194", func := "estuary/estuarylaw12.KeeperRewrites", spec := "keeperRewrites", inPlace := ["internal/reflectlite.TypeOf"], unfollowed := true, recurses := true, apart := false, narrowed := true }
def KeeperRewritesUptoSaid : Prop := keeperRewritesUptoRow.holds Try.pinned (OpenSpec.upto keeperRewritesSpec)

/-- 'estuarylaw12.KeeperNone', WHERE WHAT IT READS IS OF BULK AT MOST 1048576: true; the input reads as it did. -/
def keeperNoneUptoRow : OpenClaim := { program := "ytlhamckpgijjmaa", sum := "1855bf766385649dd3c01eb655fa941cf7702f0316944d673e5b539883e68194", func := "estuary/estuarylaw12.KeeperNone", spec := "keeperNone", inPlace := ["internal/reflectlite.TypeOf"], unfollowed := true, recurses := true, apart := false, narrowed := true }
def KeeperNoneUptoSaid : Prop := keeperNoneUptoRow.holds Try.pinned (OpenSpec.upto keeperNoneSpec)

/-- 'estuarylaw12.KeeperApart', WHERE WHAT IT READS IS OF BULK AT MOST 1048576: true; the input reads as it did. -/
def keeperApartUptoRow : OpenClaim := { program := "ytlhamckpgijjmaa", sum := "1855bf766385649dd3c01eb655fa941cf7702f0316944d673e5b539883e68194", func := "estuary/estuarylaw12.KeeperApart", spec := "keeperApart", inPlace := ["internal/reflectlite.TypeOf"], unfollowed := true, recurses := true, apart := false, narrowed := true }
def KeeperApartUptoSaid : Prop := keeperApartUptoRow.holds Try.pinned (OpenSpec.upto keeperApartSpec)

end Rows
end Go.Proofs.Ytlhamckpgijjmaa
