/-
  Cells joined: cell.Unit, cell.Join.
-/
import Derived.Test.YthmolbcnbcajdaaGreatPk28
import Derived.WalkMore
namespace Go.Proofs.YthmolbcnbcajdaaGreat
set_option maxRecDepth 100000
open Go.RowKit Go.Shelf
set_option linter.unusedVariables false

theorem built0 : Tryz.prog.built 182 [] = some (CA zc) := by kernel_rfl
/-- What cells come to, so far. -/
def stepJ (s : Option (Nat → Int)) (c : Nat → Int) : Option (Nat → Int) :=
  if eqC c zc then s else some (match s with | none => c | some x => bothF x c)
theorem stepJ_unit {s : Option (Nat → Int)} {c : Nat → Int} (h : eqC c zc = true) : stepJ s c = s := by unfold stepJ; rw [if_pos h]
theorem stepJ_none {c : Nat → Int} (h : eqC c zc = false) : stepJ none c = some c := by unfold stepJ; rw [if_neg (by rw [h]; simp)]
theorem stepJ_some {x c : Nat → Int} (h : eqC c zc = false) : stepJ (some x) c = some (bothF x c) := by unfold stepJ; rw [if_neg (by rw [h]; simp)]
def joinO (l : List (Nat → Int)) : Option (Nat → Int) := l.foldl stepJ none
def joinF (l : List (Nat → Int)) : Nat → Int := (joinO l).getD zc
theorem joinO_snoc (l : List (Nat → Int)) (c : Nat → Int) : joinO (l ++ [c]) = stepJ (joinO l) c := by simp [joinO]
theorem wf_zc : Wf zc := ⟨by simp [zc], fun i _ _ => by simp [zc]⟩
theorem wf_both {a b : Nat → Int} (ha : Wf a) (hb : Wf b) : Wf (bothF a b) := by
  refine ⟨?_, fun i hi h2 => ?_⟩
  · have : bothF a b 2 = wl (wv (a 1) (a 2) + wv (b 1) (b 2)) := rfl
    rw [this]; have := wl_bd (wv (a 1) (a 2) + wv (b 1) (b 2)); omega
  · unfold bothF headF
    have a3 := ha.2 3 (by omega) (by omega)
    have b3 := hb.2 3 (by omega) (by omega)
    have a4 := ha.2 4 (by omega) (by omega)
    have b4 := hb.2 4 (by omega) (by omega)
    have ai := ha.2 i hi h2
    have bi := hb.2 i hi h2
    have hh := wh_bd (wv (a 1) (a 2) + wv (b 1) (b 2))
    repeat' split
    all_goals first | omega | (unfold wrap64; omega)

theorem wf_stepJ {s : Option (Nat → Int)} {c : Nat → Int} (hs : ∀ x, s = some x → Wf x) (hc : Wf c) : ∀ x, stepJ s c = some x → Wf x := by
  intro x hx
  unfold stepJ at hx
  split at hx
  · exact hs x hx
  · cases s with
    | none => simp at hx; subst hx; exact hc
    | some y => simp at hx; subst hx; exact wf_both (hs y rfl) hc
theorem wf_fold : ∀ (l : List (Nat → Int)) (s : Option (Nat → Int)), (∀ c ∈ l, Wf c) → (∀ x, s = some x → Wf x) → ∀ x, l.foldl stepJ s = some x → Wf x
  | [], s, _, hs => hs
  | c :: l, s, hl, hs => wf_fold l (stepJ s c) (fun d hd => hl d (by simp [hd])) (wf_stepJ hs (hl c (by simp)))
theorem wf_joinO (l : List (Nat → Int)) (h : ∀ c ∈ l, Wf c) : ∀ x, joinO l = some x → Wf x := wf_fold l none h (fun _ e => by cases e)
theorem wf_joinF (l : List (Nat → Int)) (h : ∀ c ∈ l, Wf c) : Wf (joinF l) := by
  unfold joinF
  cases e : joinO l with
  | none => exact wf_zc
  | some x => exact wf_joinO l h x e

/-- A row of cells in memory. -/
def CRow (W : World) (g off : Nat) (l : List (Nat → Int)) : Prop := ∀ j c, l[j]? = some c → W.rangeAt g (off + j * 74) (CA c).toList

end Go.Proofs.YthmolbcnbcajdaaGreat
