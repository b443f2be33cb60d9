/-
  Streams in memory; the small functions of stream.
-/
import Derived.Test.YtfnageillhpjpaaRows
import Derived.Test.YtfnageillhpjpaaPk15
import Derived.Test.YtfnageillhpjpaaPk21
import Derived.Test.YtfnageillhpjpaaPk24
import Derived.Test.YtfnageillhpjpaaPk23
import Derived.Test.YtfnageillhpjpaaPk25
namespace Go.Proofs.Ytfnageillhpjpaa
open Go.RowKit
set_option linter.unusedVariables false
set_option maxRecDepth 100000

theorem ok_foldS (p : Prop) [Decidable p] (b : Bool) (w : World) : (if p then Result.ok b w else Result.ok false w) = Result.ok (decide p && b) w := by
  by_cases h : p <;> simp [h]
attribute [local go_sem] ok_foldS
def opA (o : Op5) : Array Value := #[.int .i64 o.s, .int .i64 o.k, .int .i64 o.t, .int .i64 o.y, .int .i64 o.v]
def opV (o : Op5) : Value := .agg (opA o)
def E5 : En Op5 := ⟨5, fun o => (opA o).toList, fun _ => rfl, fun x u hu => by simp [opA] at hu; rcases hu with rfl | rfl | rfl | rfl | rfl <;> rfl, by omega⟩
def E2 : En (Int × Int) := ⟨2, fun p => [.int .i64 p.1, .int .i64 p.2], fun _ => rfl, fun x u hu => by simp at hu; rcases hu with rfl | rfl <;> rfl, by omega⟩
theorem e2_flat (l : List (Int × Int)) : E2.fl l = flat2 l := rfl
theorem infoOp5 : (Try.prog.info? 27).map (fun i => (i.zero, i.size, i.bytes)) = some (some (.agg #[.int .i64 0, .int .i64 0, .int .i64 0, .int .i64 0, .int .i64 0]), 5, 40) := by kernel_rfl
theorem infoPl2 : (Try.prog.info? 38).map (fun i => (i.zero, i.size, i.bytes)) = some (some (.agg #[.int .i64 0, .int .i64 0]), 2, 16) := by kernel_rfl
theorem sizeOp5 : (Try.prog.info? 27).map (·.size) = some 5 := by kernel_rfl
theorem sizePl2 : (Try.prog.info? 38).map (·.size) = some 2 := by kernel_rfl
/-- A row of places as place's functions read it. -/
theorem ER.row2 {W : World} {v : Value} {l : List (Int × Int)} (h : ER E2 W v l) : ∃ q cap g off, v = .slice q l.length cap ∧ l.length ≤ cap ∧ cap ≤ 9223372036854775807 ∧ (0 < l.length → q = some ⟨g, off, none⟩) ∧ (0 < l.length → g < W.heap.size) ∧ Row2 W g off l := by
  obtain ⟨q, cap, g, off, h1, h2, h3, h4, h5⟩ := h.at
  exact ⟨q, cap, g, off, h1, h2, h3, fun h => (h4 h).1, fun h => (h4 h).2, fun j x hx => ⟨h5 j x hx 0 _ rfl, h5 j x hx 1 _ rfl⟩⟩
/-- The cells of a stream. -/
def stC (S : Sm) (vr vh vc : Value) : Array Value := #[vr, .int .i64 S.sh, .int .i64 S.hd, .int .i64 S.nx, .int .i64 S.mr.s, .int .i64 S.mr.k, .int .i64 S.mr.t, .int .i64 S.mr.y, .int .i64 S.mr.v, vh, vc]
abbrev sptr (b : Nat) : Value := .pointer (some ⟨b, 0, none⟩)
/-- Its blocks. -/
def bkS (b : Nat) (vh vc : Value) (k : Nat) : Prop := k = b ∨ vh.ownBlock = some k ∨ vc.ownBlock = some k
/-- From 1 to a number. -/
def wiB (n m : Int) : Bool := decide (1 ≤ n ∧ n ≤ m)
theorem mkd_eq (S : Sm) : (!decide (S.mr.s = 0) || (!decide (S.mr.k = 0) || (!decide (S.mr.t = 0) || (!decide (S.mr.y = 0) || !decide (S.mr.v = 0))))) = mkd S := by
  unfold mkd zOp
  cases S.mr with
  | mk a b c d e => simp [Op5.mk.injEq]
/-- What Last answers. -/
def lastV (S : Sm) : Value := if mkd S = true then .tuple #[.int .i64 S.mr.s, .int .i64 S.mr.t, .bool true] else .tuple #[.int .i64 0, .int .i64 0, .bool false]
end Go.Proofs.Ytfnageillhpjpaa
