/-
  Ballots and registers, plain: their order, which are in form, what they answer.
-/
namespace Go.Proofs.Ytnooedipanhkjaa
set_option maxRecDepth 100000
set_option linter.unusedVariables false

/-- A ballot. -/
structure Bt where
  n : Int
  nd : Int
  lf : Int
theorem Bt.ext2 {a b : Bt} (h0 : a.n = b.n) (h1 : a.nd = b.nd) (h2 : a.lf = b.lf) : a = b := by
  cases a; cases b; simp at h0 h1 h2; rw [h0, h1, h2]
/-- No ballot. -/
def zB : Bt := ⟨0, 0, 0⟩
def lt3 (a b : Bt) : Bool := decide (a.n < b.n ∨ (a.n = b.n ∧ (a.nd < b.nd ∨ (a.nd = b.nd ∧ a.lf < b.lf))))
def eqB (a b : Bt) : Bool := decide (a.n = b.n ∧ a.nd = b.nd ∧ a.lf = b.lf)
def whB (b : Bt) : Bool := decide (0 ≤ b.n ∧ 0 ≤ b.nd ∧ 0 ≤ b.lf)
def noB (b : Bt) : Bool := decide (b.n = 0 ∧ b.nd = 0 ∧ b.lf = 0)
def asB (b : Bt) : Bool := whB b && !noB b
theorem eqB_iff {a b : Bt} : eqB a b = true ↔ a = b := by
  unfold eqB
  rw [decide_eq_true_iff]
  exact ⟨fun h => Bt.ext2 h.1 h.2.1 h.2.2, fun h => by rw [h]; exact ⟨rfl, rfl, rfl⟩⟩
theorem noB_iff {a : Bt} : noB a = true ↔ a = zB := by
  unfold noB zB
  rw [decide_eq_true_iff]
  exact ⟨fun h => Bt.ext2 h.1 h.2.1 h.2.2, fun h => by rw [h]; exact ⟨rfl, rfl, rfl⟩⟩
theorem lt3_self (a : Bt) : lt3 a a = false := by unfold lt3; exact decide_eq_false (by omega)
theorem lt3_asym {a b : Bt} (h : lt3 a b = true) : lt3 b a = false := by
  unfold lt3 at *
  have := of_decide_eq_true h
  exact decide_eq_false (by omega)
theorem lt3_eq {a b : Bt} (h : lt3 a b = false) (k : lt3 b a = false) : eqB a b = true := by
  unfold lt3 eqB at *
  have := of_decide_eq_false h
  have := of_decide_eq_false k
  exact decide_eq_true (by omega)
theorem lt3_ne {a b : Bt} (h : lt3 a b = true) : eqB a b = false := by
  unfold lt3 eqB at *
  have := of_decide_eq_true h
  exact decide_eq_false (by omega)
theorem lt3_trans {a b c : Bt} (h : lt3 a b = true) (k : lt3 b c = true) : lt3 a c = true := by
  unfold lt3 at *
  have := of_decide_eq_true h
  have := of_decide_eq_true k
  exact decide_eq_true (by omega)
/-- At least, and above: above. -/
theorem lt3_le {a b c : Bt} (h : lt3 b a = false) (k : lt3 b c = true) : lt3 a c = true := by
  unfold lt3 at *
  have := of_decide_eq_false h
  have := of_decide_eq_true k
  exact decide_eq_true (by omega)
theorem lt3_le2 {a b c : Bt} (h : lt3 b a = false) (k : lt3 c b = false) : lt3 c a = false := by
  unfold lt3 at *
  have := of_decide_eq_false h
  have := of_decide_eq_false k
  exact decide_eq_false (by omega)

/-- A register. -/
structure Rg where
  p : Bt
  a : Bt
  l : List Int
def zR : Rg := ⟨zB, zB, []⟩
/-- Is it in form, with so many numbers? -/
def gdN (p a : Bt) (n : Nat) : Bool := whB p && (whB a && (!lt3 p a && (if noB a then decide (n = 0) else decide (n ≤ 32))))
def gdR (r : Rg) : Bool := gdN r.p r.a r.l.length
/-- What Prepare answers: an error's number; the register. -/
def prN (r : Rg) (b : Bt) : Nat := if gdR r && asB b then (if lt3 r.p b then 0 else 11) else 2
def prR (r : Rg) (b : Bt) : Rg := if prN r b = 0 then ⟨b, r.a, r.l⟩ else zR
/-- What Accept answers. -/
def acN (r : Rg) (b : Bt) (m : List Int) : Nat := if gdR r && (asB b && decide (m.length ≤ 32)) then (if lt3 b r.p then 11 else 0) else 2
def acR (r : Rg) (b : Bt) (m : List Int) : Rg := if acN r b m = 0 then ⟨b, b, m⟩ else zR
theorem prN_form {r : Rg} {b : Bt} (h : (gdR r && asB b) = false) : prN r b = 2 := by unfold prN; rw [h]; rfl
theorem prN_stale {r : Rg} {b : Bt} (h : (gdR r && asB b) = true) (k : lt3 r.p b = false) : prN r b = 11 := by unfold prN; rw [h, k]; rfl
theorem prN_ok {r : Rg} {b : Bt} (h : (gdR r && asB b) = true) (k : lt3 r.p b = true) : prN r b = 0 := by unfold prN; rw [h, k]; rfl
theorem prR_no {r : Rg} {b : Bt} (h : prN r b ≠ 0) : prR r b = zR := if_neg h
theorem prR_ok {r : Rg} {b : Bt} (h : prN r b = 0) : prR r b = ⟨b, r.a, r.l⟩ := if_pos h
theorem acN_form {r : Rg} {b : Bt} {m : List Int} (h : (gdR r && (asB b && decide (m.length ≤ 32))) = false) : acN r b m = 2 := by unfold acN; rw [h]; rfl
theorem acN_stale {r : Rg} {b : Bt} {m : List Int} (h : (gdR r && (asB b && decide (m.length ≤ 32))) = true) (k : lt3 b r.p = true) : acN r b m = 11 := by unfold acN; rw [h, k]; rfl
theorem acN_ok {r : Rg} {b : Bt} {m : List Int} (h : (gdR r && (asB b && decide (m.length ≤ 32))) = true) (k : lt3 b r.p = false) : acN r b m = 0 := by unfold acN; rw [h, k]; rfl
theorem acR_no {r : Rg} {b : Bt} {m : List Int} (h : acN r b m ≠ 0) : acR r b m = zR := if_neg h
theorem acR_ok {r : Rg} {b : Bt} {m : List Int} (h : acN r b m = 0) : acR r b m = ⟨b, b, m⟩ := if_pos h
end Go.Proofs.Ytnooedipanhkjaa
