/-
  Samples in memory, by what was taken; the document's Of over them. (GaX has the same pieces for law 17.)
-/
import Derived.Test.YtfnageillhpjpaaPk46
import Derived.Test.YtfnageillhpjpaaPk47
import Derived.Test.YtfnageillhpjpaaPk35
namespace Go.Proofs.Ytfnageillhpjpaa
open Go.RowKit Go.Shelf
set_option linter.unusedVariables false
set_option maxRecDepth 100000

def smA (x : Tok) : Array Value := #[.int .i64 x.2.1, .int .i64 x.2.2.s, .int .i64 x.2.2.k, .int .i64 x.2.2.t, .int .i64 x.2.2.y, .int .i64 x.2.2.v]
/-- Samples in memory, by what was taken. -/
def E6 : En Tok := ⟨6, fun x => (smA x).toList, fun _ => rfl, fun x u hu => by simp [smA] at hu; rcases hu with rfl | rfl | rfl | rfl | rfl | rfl <;> rfl, by omega⟩
theorem infoSm : (Try.prog.info? 29).map (fun i => (i.zero, i.size, i.bytes)) = some (some (.agg #[.int .i64 0, .int .i64 0, .int .i64 0, .int .i64 0, .int .i64 0, .int .i64 0]), 6, 48) := by kernel_rfl
theorem bs_sm1 (x : Tok) (w : World) : (Instr.buildSlice 25 1 #[(0, .agg (smA x))]).run Try.prog w = .ok (.slice (some ⟨w.heap.size, 0, none⟩) 1 1) (w.alloc (.cells (E6.f x).toArray 29)) := by kernel_rfl
theorem srow_E6 {W : World} {v : Value} {L : List Tok} (h : ER E6 W v L) (hf : ∀ x ∈ L, FitT x) : ∃ q cap g off, v = .slice q L.length cap ∧ (0 < L.length → q = some ⟨g, off, none⟩) ∧ (0 < L.length → g < W.heap.size) ∧ SRow W g off (L.map tkF) := by
  obtain ⟨q, cap, g, off, h1, h2, h3, h4, h5⟩ := h.at
  refine ⟨q, cap, g, off, h1, fun h => (h4 h).1, fun h => (h4 h).2, ?_⟩
  intro j s hj i hi
  rw [List.getElem?_map] at hj
  cases hx : L[j]? with
  | none => rw [hx] at hj; cases hj
  | some x =>
    rw [hx] at hj
    injection hj with hj
    subst hj
    have hF := hf x (List.mem_of_getElem? hx)
    have h6 : E6.k = 6 := rfl
    have := h5 j x hx i
    have hi' : i = 0 ∨ i = 1 ∨ i = 2 ∨ i = 3 ∨ i = 4 ∨ i = 5 := by omega
    rcases hi' with rfl | rfl | rfl | rfl | rfl | rfl
    · exact ⟨this _ rfl, hF.src⟩
    · exact ⟨this _ rfl, hF.op.s⟩
    · exact ⟨this _ rfl, hF.op.k⟩
    · exact ⟨this _ rfl, hF.op.t⟩
    · exact ⟨this _ rfl, hF.op.y⟩
    · exact ⟨this _ rfl, hF.op.v⟩
def flK (T : List Tok) (k : Kyy) : List Tok := T.filter fun x => decide (x.1 = k)
theorem flK_take {T : List Tok} {k : Kyy} {j : Nat} {x : Tok} (h : T[j]? = some x) : flK (T.take (j + 1)) k = flK (T.take j) k ++ (if x.1 = k then [x] else []) := by
  unfold flK
  rw [List.take_add_one, h, Option.toList_some, List.filter_append]
  by_cases c : x.1 = k <;> simp [c]
theorem flK_len (T : List Tok) (k : Kyy) : (flK T k).length ≤ T.length := List.length_filter_le _ _
theorem wf_sm {T : List Tok} {k : Kyy} (h : ∀ x ∈ T, FitT x) : ∀ c ∈ (smK T k).map oneS, Wf c := by
  intro c hc
  obtain ⟨s, hs, rfl⟩ := List.mem_map.1 hc
  have := smK_fit h s hs
  exact wf_oneB _ _ _ _ this.1 this.2.1 this.2.2.1 this.2.2.2
end Go.Proofs.Ytfnageillhpjpaa
