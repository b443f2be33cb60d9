/-
  Changes of a value, in plain mathematics.
-/
import Derived.WalkKit
namespace Go.Proofs.Ytnooedipanhkjaa
set_option maxRecDepth 100000
set_option linter.unusedVariables false

/-- A change: its kind, Old and New. -/
structure Cg where
  k : Int
  o : List Int
  n : List Int
/-- Is a change in form? -/
def gdC (k : Int) (a b : Nat) : Bool := (decide (k = 1) && (decide (a = 0) && decide (b = 0))) || (decide (k = 2) && (decide (a ≤ 32) && decide (b ≤ 32)))
def gdG (c : Cg) : Bool := gdC c.k c.o.length c.n.length
def ckN (k : Int) (a b : Nat) : Nat := if gdC k a b then 0 else 2
/-- Do's error, and the value behind it. -/
def doN (c : Cg) (v : List Int) : Nat := if gdG c then (if c.k = 1 then 0 else if v = c.o then 0 else 11) else 2
def doL (c : Cg) (v : List Int) : List Int := if doN c v = 0 then (if c.k = 1 then v else c.n) else v
theorem gdC_1 {a b : Nat} : gdC 1 a b = (decide (a = 0) && decide (b = 0)) := by unfold gdC; simp
theorem gdC_2 {a b : Nat} : gdC 2 a b = (decide (a ≤ 32) && decide (b ≤ 32)) := by unfold gdC; simp
theorem gdC_x {k : Int} {a b : Nat} (h1 : k ≠ 1) (h2 : k ≠ 2) : gdC k a b = false := by unfold gdC; simp [h1, h2]
theorem ckN_ok {k : Int} {a b : Nat} (h : gdC k a b = true) : ckN k a b = 0 := by unfold ckN; rw [h]; rfl
theorem ckN_no {k : Int} {a b : Nat} (h : gdC k a b = false) : ckN k a b = 2 := by unfold ckN; rw [h]; rfl
theorem do_form {c : Cg} {v : List Int} (h : gdG c = false) : doN c v = 2 ∧ doL c v = v := by
  have h1 : doN c v = 2 := by unfold doN; rw [h]; rfl
  exact ⟨h1, by unfold doL; rw [h1]; rfl⟩
theorem do_read {c : Cg} {v : List Int} (h : gdG c = true) (hk : c.k = 1) : doN c v = 0 ∧ doL c v = v := by
  have h1 : doN c v = 0 := by unfold doN; rw [h, hk]; rfl
  exact ⟨h1, by unfold doL; rw [h1, hk]; rfl⟩
theorem gd_kind {c : Cg} (h : gdG c = true) : c.k = 1 ∨ c.k = 2 := by
  unfold gdG gdC at h
  rcases (Bool.or_eq_true _ _).mp h with h | h
  · exact .inl (of_decide_eq_true ((Bool.and_eq_true _ _).mp h).1)
  · exact .inr (of_decide_eq_true ((Bool.and_eq_true _ _).mp h).1)
theorem do_swap {c : Cg} {v : List Int} (h : gdG c = true) (hk : c.k = 2) (hv : v = c.o) : doN c v = 0 ∧ doL c v = c.n := by
  have h1 : doN c v = 0 := by unfold doN; rw [h, hk, if_pos hv]; rfl
  exact ⟨h1, by unfold doL; rw [h1, hk]; rfl⟩
theorem do_stale {c : Cg} {v : List Int} (h : gdG c = true) (hk : c.k = 2) (hv : v ≠ c.o) : doN c v = 11 ∧ doL c v = v := by
  have h1 : doN c v = 11 := by unfold doN; rw [h, hk, if_neg hv]; rfl
  exact ⟨h1, by unfold doL; rw [h1]; rfl⟩
theorem gd_small {c : Cg} (h : gdG c = true) : c.o.length ≤ 32 ∧ c.n.length ≤ 32 := by
  rcases gd_kind h with e | e
  · unfold gdG at h
    rw [e, gdC_1, Bool.and_eq_true, decide_eq_true_iff, decide_eq_true_iff] at h
    omega
  · unfold gdG at h
    rw [e, gdC_2, Bool.and_eq_true, decide_eq_true_iff, decide_eq_true_iff] at h
    omega
theorem doL_or (c : Cg) (v : List Int) : doL c v = v ∨ doL c v = c.n := by
  unfold doL
  split
  · split
    · exact .inl rfl
    · exact .inr rfl
  · exact .inl rfl
end Go.Proofs.Ytnooedipanhkjaa
