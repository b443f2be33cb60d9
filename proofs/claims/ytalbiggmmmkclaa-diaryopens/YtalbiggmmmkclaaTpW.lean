/-
  What comes in: a row of calls; estuarylaw06.long; a region's S may be made narrower on the way.
-/
import Derived.Test.YtalbiggmmmkclaaTpV
import Derived.SizedLaws
namespace Go.Proofs.Ytalbiggmmmkclaa
open Go.ChangeShapes Go.WideShapes Go.ChangeAt Go.RowKit
set_option linter.unusedVariables false

theorem wpAnyH_less {P : Program} {md : Region.Mode} {ops : Array Oper} {Q : Exit → Act → World → Prop} {S S' : World → Prop} (hS : ∀ w, S' w → S w) : ∀ (n : Nat) (l : Array Bool) (a : Act) (w : World), wpAnyH P md ops Q S' n l a w → wpAnyH P md ops Q S n l a w
  | 0, _, _, _, h => h
  | n + 1, _, _, _, h => ⟨h.1, fun i hi => wpOp_mono (fun a' w' h' => ⟨hS _ h'.1, wpAnyH_less hS n _ a' w' h'.2⟩) (h.2 i hi)⟩
/-- A call: its kind, its bytes, its number. -/
structure OpD where
  kd : Int
  nn : Int
  v : Value
  l : List Nat
/-- A call in memory. -/
structure OpAt (W : World) (g o : Nat) (x : OpD) : Prop where
  c0 : W.cell? ⟨g, o, none⟩ = some (.int .i64 x.kd)
  c1 : W.cell? ⟨g, o + 1, none⟩ = some x.v
  c2 : W.cell? ⟨g, o + 2, none⟩ = some (.int .i64 x.nn)
  sl : Sl W x.v x.l
  bk : -9223372036854775808 ≤ x.kd ∧ x.kd ≤ 9223372036854775807
  bn : -9223372036854775808 ≤ x.nn ∧ x.nn ≤ 9223372036854775807
structure Sc (W : World) (q : Option Addr) (n cap g off : Nat) (os : List OpD) : Prop where
  len : os.length = n
  fits : n ≤ cap
  max : cap ≤ 9223372036854775807
  ptr : 0 < n → q = some ⟨g, off, none⟩
  lt : 0 < n → g < W.heap.size
  row : ∀ j x, os[j]? = some x → OpAt W g (off + j * 3) x
  few : n ≤ 3518437208780
section
variable {H : Type} {enc : TypeId × Value → H} {w : World} {base : Nat} {spare : Nat → Bool} {held : Bool}
/-- A slice that came in is not longer than what a machine reaches. -/
theorem len_ofT {P : Program} {fuel : Nat} {t e : TypeId} {q : Option Addr} {len cap : Nat} {x : DataW H × List MemPlace} (ht : P.underlying t = some (.slice e)) (hf : DataW.trod enc P w base spare held fuel t [.slice q len cap] = some x) (hw : ∀ n ∈ x.1.weights P t, n ≤ reachBytes) : len * P.bytesOf e ≤ reachBytes := by
  rcases Deep.open_slice ht hf with ⟨hcs, _⟩ | ⟨a', len', cap', m, n', D', Pl, hcs, hb, hl, hm, hmm, rfl, hel⟩
  · simp at hcs
    obtain ⟨-, rfl, -⟩ := hcs
    simp
  · simp at hcs
    obtain ⟨rfl, rfl, rfl⟩ := hcs
    have h1 := hw ((len + (m - len)) * P.bytesOf e) (by simp [DataW.weights, ht])
    exact Nat.le_trans (Nat.mul_le_mul_right _ (by omega)) h1
end
theorem OpAt.keep {W W' : World} {g o : Nat} {x : OpD} (h : OpAt W g o x) (hg : g < W.heap.size) (hb : Below W.heap.size W W') : OpAt W' g o x :=
  ⟨keep_cell hb h.c0 hg, keep_cell hb h.c1 hg, keep_cell hb h.c2 hg, h.sl.keep hb, h.bk, h.bn⟩
end Go.Proofs.Ytalbiggmmmkclaa
