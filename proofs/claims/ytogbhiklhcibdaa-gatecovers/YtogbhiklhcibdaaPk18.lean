/-
  Places in order: plain mathematics of what sorting them gives.
-/
import Derived.Test.YtogbhiklhcibdaaPk16
import Derived.Shelf.SlSortCmp.NoneTotal
namespace Go.Proofs.Ytogbhiklhcibdaa
set_option maxRecDepth 100000
open Go.RowKit
set_option linter.unusedVariables false

def plq (x y : Int × Int) : Bool := pl x.1 x.2 y.1 y.2
theorem plq_iff (x y : Int × Int) : plq x y = true ↔ (x.1 < y.1 ∨ (x.1 = y.1 ∧ x.2 < y.2)) := by unfold plq pl; exact decide_eq_true_iff
theorem plq_no (x y : Int × Int) : plq x y = false ↔ ¬ (x.1 < y.1 ∨ (x.1 = y.1 ∧ x.2 < y.2)) := by rw [← plq_iff]; simp
/-- What basin's order answers. -/
def cfP (x y : Int × Int) : Int := if plq x y = true then -1 else if plq y x = true then 1 else 0
theorem ltcf (x y : Int × Int) : ltOf cfP x y = plq x y := by
  unfold ltOf cfP
  cases plq x y <;> cases plq y x <;> simp
theorem swoP : Go.Sort.SWO (ltOf cfP) where
  irrefl x := by rw [ltcf, plq_no]; omega
  trans x y z h1 h2 := by rw [ltcf, plq_iff] at *; omega
  ntrans x y z h1 h2 := by rw [ltcf, plq_no] at *; omega
theorem totP (x y : Int × Int) (h1 : plq x y = false) (h2 : plq y x = false) : x = y := by
  rw [plq_no] at h1 h2
  exact Prod.ext (by omega) (by omega)
/-- Places in order. -/
def sortP (l : List (Int × Int)) : List (Int × Int) := l.mergeSort fun x y => !plq y x
theorem sortP_perm (l : List (Int × Int)) : (sortP l).Perm l := List.mergeSort_perm _ _
theorem sortP_len (l : List (Int × Int)) : (sortP l).length = l.length := (sortP_perm l).length_eq
theorem leP_trans (a b c : Int × Int) (h1 : (!plq b a) = true) (h2 : (!plq c b) = true) : (!plq c a) = true := by
  simp only [Bool.not_eq_true', plq_no] at *; omega
theorem leP_total (a b : Int × Int) : ((!plq b a) || (!plq a b)) = true := by
  simp only [Bool.or_eq_true, Bool.not_eq_true', plq_no]; omega
theorem sortP_sorted (l : List (Int × Int)) : (sortP l).Pairwise fun x y => (!plq y x) = true := by
  unfold sortP
  exact List.pairwise_mergeSort leP_trans leP_total l
theorem sortP_uniq {l m : List (Int × Int)} (h : l.Perm m) : sortP l = sortP m := by
  refine List.Perm.eq_of_pairwise (le := fun x y => (!plq y x) = true) ?_ (sortP_sorted l) (sortP_sorted m) (((sortP_perm l).trans h).trans (sortP_perm m).symm)
  intro a b _ _ h1 h2
  simp only [Bool.not_eq_true'] at h1 h2
  exact totP a b h2 h1
theorem sortP_of_sorted {l : List (Int × Int)} (h : l.Pairwise fun x y => (!plq y x) = true) : sortP l = l := by
  refine List.Perm.eq_of_pairwise (le := fun x y => (!plq y x) = true) ?_ (sortP_sorted l) h (sortP_perm l)
  intro a b _ _ h1 h2
  simp only [Bool.not_eq_true'] at h1 h2
  exact totP a b h2 h1
/-- Where no place comes twice, they rise. -/
theorem sortP_rises {l : List (Int × Int)} (h : l.Nodup) : (sortP l).Pairwise fun x y => plq x y = true := by
  have hn : (sortP l).Nodup := (sortP_perm l).nodup_iff.2 h
  refine ((sortP_sorted l).and hn).imp ?_
  rintro a b ⟨h1, h2⟩
  cases hp : plq a b
  · simp only [Bool.not_eq_true'] at h1
    exact absurd (totP a b hp h1) h2
  · rfl
end Go.Proofs.Ytogbhiklhcibdaa
