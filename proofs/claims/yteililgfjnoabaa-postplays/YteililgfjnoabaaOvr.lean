/-
  estuarynum.Over.
-/
import Derived.Test.YteililgfjnoabaaFrC
namespace Go.Proofs.Yteililgfjnoabaa
open Go.RowKit
set_option linter.unusedVariables false

def u8s (zs : List Int) : List Value := zs.map fun z => Value.int .u8 z
theorem u8s_set (l : List Int) (j : Nat) (x : Int) : (u8s l).set j (.int .u8 x) = u8s (l.set j x) := by simp [u8s, List.map_set]
theorem bys_u8s (l : List Nat) : bys l = u8s (l.map fun x => ((x : Nat) : Int)) := by simp [bys, u8s]
set_option maxHeartbeats 1000000 in
theorem over_any (base : Nat) (v : Value) (l : List Nat) (w : World) (h : Ow w base v l) :
    Calls Try.prog 16 #[v] w fun e w' => e = .returned (.tuple #[]) ∧ (∀ g, v.ownBlock = some g → Chg g w w') ∧ (v.ownBlock = none → w' = w) := by
  by_cases hv : v = .slice none 0 0
  · subst hv
    go_enter Try.func16, Try.ntmps16
    go_wp2_with fail
    go_loopw [5] (fun x wr => x = .int .i64 0 ∧ wr = w) (fun _ _ => 0)
    case atStart => exact ⟨rfl, rfl⟩
    case round =>
      obtain ⟨rfl, rfl⟩ := hrel
      go_wp2_with fail
      go_end0
      exact ⟨rfl, (fun g hg => by cases hg), fun _ => rfl⟩
  · obtain ⟨g, cap, e, hb, hg, hc, hm, hcell⟩ := own_cells h hv
    unfold Ow at h
    unfold maxLen at hm
    generalize hn : l.length = n at *
    subst e
    rw [bys_u8s] at h
    have hz : (l.map fun x => ((x : Nat) : Int)).length = n := by simpa using hn
    generalize (l.map fun x => ((x : Nat) : Int)) = zs at *
    clear hcell hv
    go_enter Try.func16, Try.ntmps16
    go_wp2_with fail
    go_loopw [5] (fun x wr => ∃ (i : Nat) (ys : List Int), i ≤ n ∧ x = .int .i64 (i : Int) ∧ ys.length = n ∧ wr.ownsRow base 5 1 (.slice (some ⟨g, 0, none⟩) n cap) n (u8s ys) ∧ Chg g w wr) (fun x _ => n - (intOf x).toNat)
    case atStart => exact ⟨0, zs, by omega, rfl, hz, h, Chg.refl _ _⟩
    case round =>
      clear h hz
      obtain ⟨i, ys, hi, rfl, hy, h, hk⟩ := hrel
      by_cases hin : i = n
      · subst hin
        go_wp2_with fail
        go_end0
        exact ⟨rfl, (fun g' hg' => by cases hg'; exact hk), (fun h0 => by cases h0)⟩
      · have hii : (i : Int) < (n : Int) := by omega
        have hin' : i < n := by omega
        have d := h.cellAt i (by omega)
        have fz := h.frozenAt i
        obtain ⟨z, hzz⟩ : ∃ z, ys[i]? = some z := ⟨ys[i], List.getElem?_eq_getElem (by omega)⟩
        have hu : (u8s ys)[i]? = some (.int .u8 z) := by simp [u8s, hzz]
        rw [hu] at d
        go_wp2_with fail
        have hst := (h.stored i (.int .u8 (bits .xor .u8 z 255))).1
        rw [u8s_set] at hst
        exact ⟨⟨i + 1, _, by omega, rfl, by rw [List.length_set]; exact hy, hst, hk.trans (chg_set _ _ _ _)⟩, by simp only [intOf]; omega⟩
end Go.Proofs.Yteililgfjnoabaa
