/-
  A watch and its leases, plainly: what Take, Tick, Saw, Want and Leads come to.
-/
import Derived.Test.YtddpdmolknfjaaaRows
import Derived.ProofKit
namespace Go.Proofs.Ytddpdmolknfjaaa
open Go.RowKit
set_option linter.unusedVariables false

/-- A lease: epoch, holder, life, beat. -/
structure Le where
  e : Int
  h : Int
  l : Int
  b : Int
abbrev zL : Le := ⟨0, 0, 0, 0⟩
def numL (x : Le) : List Int := [x.e, x.h, x.l, x.b]
def isL : List Int → Bool
  | [e, h, l, b] => decide (1 ≤ e ∧ 0 ≤ h ∧ 0 ≤ l ∧ 0 ≤ b)
  | _ => false
def tkL : List Int → Le
  | [e, h, l, b] => if 1 ≤ e ∧ 0 ≤ h ∧ 0 ≤ l ∧ 0 ≤ b then ⟨e, h, l, b⟩ else zL
  | _ => zL
/-- One more, as a machine has it. -/
def nx (a : Int) : Int := wrap64 (a + 1)
theorem nx_ok {a : Int} (h0 : 0 ≤ a) (h1 : a < 9223372036854775807) : nx a = a + 1 := by
  unfold nx wrap64; omega
theorem nx_wrap (a : Int) : IntKind.i64.wrap (a + 1) = nx a := by unfold nx wrap64; simp only [IntKind.wrap_i64]
theorem nx_0 : nx 0 = 1 := by decide
theorem four {v : List Int} (h : v.length = 4) : ∃ e h l b, v = [e, h, l, b] := by
  match v, h with
  | [e, h, l, b], _ => exact ⟨e, h, l, b, rfl⟩
theorem isL_len {v : List Int} (h : isL v = true) : v.length = 4 := by
  unfold isL at h
  split at h
  · rfl
  · cases h
theorem isL_no {v : List Int} (h : v.length ≠ 4) : isL v = false ∧ tkL v = zL := by
  constructor
  · cases hv : isL v
    · rfl
    · exact absurd (isL_len hv) h
  · unfold tkL
    split
    · exact absurd rfl h
    · rfl
theorem isL_yes {e h l b : Int} (c : 1 ≤ e ∧ 0 ≤ h ∧ 0 ≤ l ∧ 0 ≤ b) : isL [e, h, l, b] = true ∧ tkL [e, h, l, b] = ⟨e, h, l, b⟩ := ⟨decide_eq_true c, if_pos c⟩
theorem isL_not {e h l b : Int} (c : ¬ (1 ≤ e ∧ 0 ≤ h ∧ 0 ≤ l ∧ 0 ≤ b)) : isL [e, h, l, b] = false ∧ tkL [e, h, l, b] = zL := ⟨decide_eq_false c, if_neg c⟩
theorem tk_no {v : List Int} (h : isL v = false) : tkL v = zL := by
  by_cases c : v.length = 4
  · obtain ⟨e, h', l, b, rfl⟩ := four c
    by_cases d : 1 ≤ e ∧ 0 ≤ h' ∧ 0 ≤ l ∧ 0 ≤ b
    · rw [(isL_yes d).1] at h; cases h
    · exact (isL_not d).2
  · exact (isL_no c).2
theorem tk_num {v : List Int} (h : isL v = true) : numL (tkL v) = v := by
  obtain ⟨e, h', l, b, rfl⟩ := four (isL_len h)
  have c := of_decide_eq_true (show decide (1 ≤ e ∧ 0 ≤ h' ∧ 0 ≤ l ∧ 0 ≤ b) = true from h)
  rw [(isL_yes c).2]
  rfl
/-- A watch. -/
structure Wt where
  nd : Int
  lf : Int
  tk : Int
  sn : Bool
  vl : List Int
  ag : Int
def ldB (S : Wt) : Bool := isL S.vl && (decide ((tkL S.vl).h = S.nd) && decide ((tkL S.vl).l = S.lf))
def ldN (S : Wt) : Int := if ldB S then (tkL S.vl).e else 0
/-- What it wants: a read (0), its own lease renewed (1), the lease for itself (2). -/
def wnW (S : Wt) : Nat := if S.sn then (if ldB S then 1 else if isL S.vl && decide (S.ag < S.tk) then 0 else 2) else 0
def wnK (S : Wt) : Int := if wnW S = 0 then 1 else 2
def wnO (S : Wt) : List Int := if wnW S = 0 then [] else S.vl
def wnN (S : Wt) : List Int := if wnW S = 0 then [] else if wnW S = 1 then [(tkL S.vl).e, (tkL S.vl).h, (tkL S.vl).l, nx (tkL S.vl).b] else [nx (tkL S.vl).e, S.nd, S.lf, 0]
def tickW (S : Wt) : Wt := if S.ag < 1000 then { S with ag := S.ag + 1 } else S
def sawW (S : Wt) (v : List Int) : Wt := if S.sn && decide (v = S.vl) then S else { S with sn := true, vl := v, ag := 0 }
def newW (nd lf tk : Int) : Wt := ⟨nd, lf, tk, false, [], 0⟩
end Go.Proofs.Ytddpdmolknfjaaa
