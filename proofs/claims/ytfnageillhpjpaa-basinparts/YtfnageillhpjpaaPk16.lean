/-
  What place's calls on places return, and the document's own: first, Least, Less, Within, After, Closed.
-/
import Derived.Test.YtfnageillhpjpaaRows
import Derived.Test.YtfnageillhpjpaaPk10
import Derived.Test.YtfnageillhpjpaaPk07
import Derived.Test.YtfnageillhpjpaaPk05
namespace Go.Proofs.Ytfnageillhpjpaa
set_option maxRecDepth 100000
open Go.RowKit
set_option linter.unusedVariables false

/-- A place is ahead of another one. -/
def pl (a0 a1 b0 b1 : Int) : Bool := decide (a0 < b0 ∨ (a0 = b0 ∧ a1 < b1))
/-- The place behind a place, and whether there is one. -/
def afW (w k : Int) : Int := if k < 9223372036854775807 then w else if w < 9223372036854775807 then w + 1 else w
def afK (w k : Int) : Int := if k < 9223372036854775807 then k + 1 else if w < 9223372036854775807 then -9223372036854775808 else k
def afB (w k : Int) : Bool := decide (k < 9223372036854775807 ∨ w < 9223372036854775807)
abbrev Plc (a b : Int) : Value := .agg #[.int .i64 a, .int .i64 b]
theorem info_plc : (Try.prog.info? 38).map (·.size) = some 2 := by kernel_rfl

theorem results_p {P : Program} {fn : Func} {p s : Tmp} {ty : TypeId} (h : fn.results = #[.cell p ty, .tmp s]) (tmps : Array Value) (w : World) (g : Nat) (t : TypeId) (cs : Array Value) (fr : Nat × Nat) (d : TypeDesc) (u : Value)
    (hp : tmps.getD p undef = .pointer (some ⟨g, 0, none⟩)) (hs : tmps.getD s undef = u) (hg : w.heap[g]? = some (.cells cs t fr))
    (hu : P.underlying ty = some d) (hd : (match d with | .struct _ | .array _ _ => true | _ => false) = true) (hi : (P.info? ty).map (·.size) = some cs.size) :
    (results fn tmps).run P w = .ok (.tuple #[.agg cs, u]) w := by
  have hp' : tmps[p]?.getD undef = .pointer (some ⟨g, 0, none⟩) := by simpa using hp
  have hs' : tmps[s]?.getD undef = u := by simpa using hs
  simp [results, h, hp', hs', asAddr, run_loadVar_row w g t ty cs fr d hg hu hd hi]

theorem first_any (n : Int) (w : World) : Calls Try.prog 39 #[.int .i64 n] w fun e w' => e = .returned (Plc n (-9223372036854775808)) ∧ Below w.heap.size w w' := by
  go_enter Try.func39, Try.ntmps39
  go_wp2_with fail
  exact bodyPost_ret (v := Plc n (-9223372036854775808)) (by simp [results, Try.results39, go_sem]) rfl ⟨rfl, by repeat (first | exact Below.refl _ _ | refine ab_set ?_ (by dsimp only; omega) _ | refine ab_alloc ?_ _)⟩

theorem least_any (w : World) : Calls Try.prog 20 #[] w fun e w' => e = .returned (Plc (-9223372036854775808) (-9223372036854775808)) ∧ Below w.heap.size w w' := by
  go_enter Try.func20, Try.ntmps20
  go_wp2_with fail
  refine (first_any _ _).mono ?_
  rintro e w' ⟨rfl, hb⟩
  obtain ⟨hc, hf⟩ := bcell hb
  have hz : w.heap.size < w'.heap.size := by have := hb.size; simp at this; omega
  go_wp2_with fail
  refine bodyPost_ret (v := Plc (-9223372036854775808) (-9223372036854775808)) (by simp [results, Try.results20, go_sem, hc]) rfl ⟨rfl, ?_⟩
  repeat (first | exact Below.refl _ _ | refine ab_set ?_ (by dsimp only; omega) _ | refine ab_alloc ?_ _ | refine ab_trans ?_ hb)

theorem rleast_any (w : World) : Calls Try.prog 6 #[] w fun e w' => e = .returned (Plc (-9223372036854775808) (-9223372036854775808)) ∧ Below w.heap.size w w' := by
  go_enter Try.func6, Try.ntmps6
  go_wp2_with fail
  exact bodyPost_ret (v := Plc (-9223372036854775808) (-9223372036854775808)) (by simp [results, Try.results6, go_sem]) rfl ⟨rfl, by repeat (first | exact Below.refl _ _ | refine ab_set ?_ (by dsimp only; omega) _ | refine ab_alloc ?_ _)⟩

theorem pless_any (a0 a1 b0 b1 : Int) (w : World) : Calls Try.prog 40 #[Plc a0 a1, Plc b0 b1] w fun e w' => e = .returned (.bool (pl a0 a1 b0 b1)) ∧ Below w.heap.size w w' := by
  by_cases c : a0 = b0
  · have hc : (a0 != b0) = false := by simp [c]
    have HF : Hid (decide (a1 < b1) = pl a0 a1 b0 b1) := by show _ = _; unfold pl; rw [decide_eq_decide]; omega
    clear c
    go_enter Try.func40, Try.ntmps40
    go_wp2_with fail
    go_ret
    exact ⟨ret_bool HF.out, by repeat (first | exact Below.refl _ _ | refine ab_alloc ?_ _)⟩
  · have hc : (a0 != b0) = true := by simp [c]
    have HF : Hid (decide (a0 < b0) = pl a0 a1 b0 b1) := by show _ = _; unfold pl; rw [decide_eq_decide]; omega
    clear c
    go_enter Try.func40, Try.ntmps40
    go_wp2_with fail
    go_ret
    exact ⟨ret_bool HF.out, by repeat (first | exact Below.refl _ _ | refine ab_alloc ?_ _)⟩

/-- Whether a place lies between two others. -/
def pw (p0 p1 a0 a1 b0 b1 : Int) : Bool := !pl p0 p1 a0 a1 && pl p0 p1 b0 b1
theorem af_1 {w k : Int} (h : k < 9223372036854775807) : afW w k = w ∧ afK w k = k + 1 ∧ afB w k = true := by
  unfold afW afK afB; rw [if_pos h, if_pos h]; exact ⟨rfl, rfl, decide_eq_true (.inl h)⟩
theorem af_2 {w k : Int} (h : ¬ k < 9223372036854775807) (g : w < 9223372036854775807) : afW w k = w + 1 ∧ afK w k = -9223372036854775808 ∧ afB w k = true := by
  unfold afW afK afB; rw [if_neg h, if_neg h, if_pos g, if_pos g]; exact ⟨rfl, rfl, decide_eq_true (.inr g)⟩
theorem af_3 {w k : Int} (h : ¬ k < 9223372036854775807) (g : ¬ w < 9223372036854775807) : afW w k = w ∧ afK w k = k ∧ afB w k = false := by
  unfold afW afK afB; rw [if_neg h, if_neg h, if_neg g, if_neg g]; exact ⟨rfl, rfl, decide_eq_false (by omega)⟩
theorem ret_af {x y : Int} {b : Bool} {x' y' : Int} {b' : Bool} (h : Hid (x = x' ∧ y = y' ∧ b = b')) : Ending.returned (.tuple #[Plc x' y', .bool b']) = .returned (.tuple #[Plc x y, .bool b]) := by
  obtain ⟨rfl, rfl, rfl⟩ := h.out; rfl

theorem closed_any (t r : Int) (w : World) (h0 : -9223372036854775808 ≤ t) (h1 : t ≤ 9223372036854775807) (g1 : r ≤ 9223372036854775807) :
    Calls Try.prog 36 #[.int .i64 t, .int .i64 r] w fun e w' => e = .returned (Plc (flD t r) (-9223372036854775808)) ∧ Below w.heap.size w w' := by
  go_enter Try.func36, Try.ntmps36
  go_wp2_with fail
  refine (div_any t r _ h0 h1 g1).mono ?_
  rintro e w1 ⟨rfl, n, rfl⟩
  go_wp2_with fail
  refine (first_any _ _).mono ?_
  rintro e w' ⟨rfl, hb⟩
  obtain ⟨hc, hf⟩ := bcell hb
  have hz : w.heap.size < w'.heap.size := by have := hb.size; simp at this; omega
  go_wp2_with fail
  refine bodyPost_ret (v := Plc (flD t r) (-9223372036854775808)) (by simp [results, Try.results36, go_sem, hc]) rfl ⟨rfl, ?_⟩
  repeat (first | exact Below.refl _ _ | refine ab_set ?_ (by dsimp only; omega) _ | refine ab_alloc ?_ _ | refine ab_drewN ?_ _ | refine ab_trans ?_ hb)

theorem shard_any (t r : Int) (w : World) (h0 : -9223372036854775808 ≤ t) (h1 : t ≤ 9223372036854775807) (g1 : r ≤ 9223372036854775807) :
    Calls Try.prog 60 #[.int .i64 t, .int .i64 r] w fun e w' => e = .returned (.int .i64 (flM t r)) ∧ ∃ n, w' = w.drewN n := by
  go_enter Try.func60, Try.ntmps60
  go_wp2_with fail
  refine (mod_any t r _ h0 h1 g1).mono ?_
  rintro e w1 ⟨rfl, n, rfl⟩
  go_wp2_with fail
  go_ret
  exact ⟨rfl, n, rfl⟩

/-- A lane's number. -/
def lnN (i s n : Int) : Int := wrap64 (i * n + s)
theorem lane_any (i s n : Int) (w : World) : Calls Try.prog 61 #[.int .i64 i, .int .i64 s, .int .i64 n] w fun e w' => e = .returned (.int .i64 (lnN i s n)) ∧ w' = w := by
  have HL : Hid (wrap64 (wrap64 (i * n) + s) = lnN i s n) := by show _ = _; unfold lnN wrap64; omega
  go_enter Try.func61, Try.ntmps61
  go_wp2_with fail
  go_ret
  exact ⟨ret_int HL.out, rfl⟩
end Go.Proofs.Ytfnageillhpjpaa
