/-
  What comes in: a note.
-/
import Derived.Test.YtclfdagenaaalaaGreatPk40
import Derived.Test.YtclfdagenaaalaaGreatPk30
import Derived.SizedLaws
namespace Go.Proofs.YtclfdagenaaalaaGreat
set_option maxRecDepth 100000
open Go.ChangeShapes Go.WideShapes Go.ChangeAt Go.RowKit
set_option linter.unusedVariables false

section
variable {H : Type} {enc : TypeId × Value → H} {P : Program} {w : World} {base : Nat} {spare : Nat → Bool} {held : Bool}
/-- A struct that came in: its cells, what each field reads as, and its plain data. -/
theorem open_struct2 {r : Reach} {b0 n : Nat} {t : TypeId} {fs : Array Field} {v : Value} {d : DataW H} {p : List MemPlace} (hu : P.underlying t = some (.struct fs)) (hC : P.cellsOf t = n)
    (hv : Value.okWide P w r b0 t v) (h : DataW.Trod enc P w base spare held t v d p) :
    ∃ cs : Array Value, v = .agg cs ∧ cs.size = n ∧ ∃ (m : Nat) (xs : List (DataW H × List MemPlace)), d = .agg (xs.map (·.1)) ∧ ∀ (i : Nat) (f : Field), fs[i]? = some f → ∃ x, xs[i]? = some x ∧ DataW.trod enc P w base spare held m f.type ((cs.toList.drop f.offset).take (P.cellsOf f.type)) = some x := by
  obtain ⟨cs, rfl, hs⟩ : ∃ cs, v = .agg cs ∧ cs.size = P.cellsOf t := by
    simp only [Value.okWide, hu] at hv
    obtain ⟨cs, h1, h2, _⟩ := hv; exact ⟨cs, h1, h2⟩
  obtain ⟨fuel, hf⟩ := h
  obtain ⟨xs, m, _, hd, _, hl, hx⟩ := DataW.trod_struct hu hf
  have hd1 : d = .agg (xs.map (·.1)) := congrArg Prod.fst hd
  refine ⟨cs, rfl, hs.trans hC, m, xs, hd1, fun i f hi => ?_⟩
  have := hx i f hi
  have hlt : i < xs.length := by rw [hl]; exact (Array.getElem?_eq_some_iff.1 hi).1
  rw [List.getElem?_eq_getElem hlt] at this
  exact ⟨_, List.getElem?_eq_getElem hlt, by simpa [Value.cells] using this⟩
/-- A slice that came in is not longer than what a machine reaches. -/
theorem len_of {fuel : Nat} {t e : TypeId} {q : Option Addr} {len cap : Nat} {x : DataW H × List MemPlace} (ht : P.underlying t = some (.slice e)) (hf : DataW.trod enc P w base spare held fuel t [.slice q len cap] = some x) (hw : ∀ n ∈ x.1.weights P t, n ≤ reachBytes) : len * P.bytesOf e ≤ reachBytes := by
  rcases Deep.open_slice ht hf with ⟨hcs, _⟩ | ⟨a', len', cap', m, n', D', Pl, hcs, hb, hl, hm, hmm, rfl, hel⟩
  · simp at hcs
    obtain ⟨-, rfl, -⟩ := hcs
    simp
  · simp at hcs
    obtain ⟨rfl, rfl, rfl⟩ := hcs
    have h1 := hw ((len + (m - len)) * P.bytesOf e) (by simp [DataW.weights, ht])
    exact Nat.le_trans (Nat.mul_le_mul_right _ (by omega)) h1
theorem sr_rows {k : Nat} {ks : Nat → IntKind} {q : Option Addr} {g off len cap : Nat} {l : List (Nat → Int)} (hl : l.length = len) (hk : len ≤ cap) (hm : cap ≤ maxLen) (hp : 0 < len → q = some ⟨g, off, none⟩) (hg : 0 < len → g < w.heap.size)
    (hc : ∀ j c, l[j]? = some c → ∀ i, i < k → w.cell? ⟨g, off + j * k + i, none⟩ = some (.int (ks i) (c i)) ∧ (Lit.int (ks i) (c i)).wf = true) : SR k ks w (.slice q len cap) l := by
  subst hl
  refine ⟨q, cap, g, off, rfl, hk, hm, hp, hg, fun j c hj i v hv => ?_⟩
  have hi : i < k := by have := (List.getElem?_eq_some_iff.1 hv).1; rwa [AG_len] at this
  rw [AG_at k ks c i hi] at hv
  cases hv
  exact (hc j c hj i hi).1
end
section
variable {H : Type} {enc : TypeId × Value → H} {w : World} {base : Nat} {spare : Nat → Bool} {held : Bool}
/-- How much a note that came in may hold. -/
def LenN (N : Nt) : Prop := N.ns.length ≤ 17592186043904 ∧ N.os.length ≤ 3518437208780 ∧ N.es.length ≤ 231476132156
set_option maxRecDepth 100000 in
set_option maxHeartbeats 1000000 in
theorem open_note {r : Reach} {b0 : Nat} {v : Value} {d : DataW H} {p : List MemPlace} (hv : Value.okWide Tryz.prog w r b0 36 v) (h : DataW.Trod enc Tryz.prog w base spare held 36 v d p) (hz : ∀ n ∈ d.weights Tryz.prog 36, n ≤ reachBytes) :
    ∃ (N : Nt) (vn vo ve : Value), v = ntV N vn vo ve ∧ Is w vn N.ns ∧ SR 5 k64 w vo N.os ∧ SR 76 ek w ve N.es ∧ WN N ∧ LenN N := by
  obtain ⟨cs, rfl, hs, m, xs, rfl, hx⟩ := open_struct2 (n := 6) Tryz.underlying36 (by kernel_rfl) hv h
  obtain ⟨e0, e1, e2, e3, e4, e5, rfl⟩ : ∃ e0 e1 e2 e3 e4 e5, cs = #[e0, e1, e2, e3, e4, e5] := by
    refine ⟨cs[0], cs[1], cs[2], cs[3], cs[4], cs[5], ?_⟩
    apply Array.ext
    · simpa using hs
    · intro i h1 h2
      have : i = 0 ∨ i = 1 ∨ i = 2 ∨ i = 3 ∨ i = 4 ∨ i = 5 := by omega
      rcases this with rfl | rfl | rfl | rfl | rfl | rfl <;> rfl
  obtain ⟨x0, hx0, f0⟩ := hx 0 _ rfl
  obtain ⟨x1, hx1, f1⟩ := hx 1 _ rfl
  obtain ⟨x2, hx2, f2⟩ := hx 2 _ rfl
  obtain ⟨x3, hx3, f3⟩ := hx 3 _ rfl
  obtain ⟨x4, hx4, f4⟩ := hx 4 _ rfl
  obtain ⟨x5, hx5, f5⟩ := hx 5 _ rfl
  obtain ⟨a0, ea0, w0⟩ := flat_cell 8 _ 3 _ _ 0 .i64 f0 (by kernel_rfl)
  obtain rfl : e0 = .int .i64 a0 := by have h9 : ([e0] : List Value)[0]? = some (Value.int .i64 a0) := ea0; simpa using h9
  obtain ⟨a1, ea1, w1⟩ := flat_cell 8 _ 3 _ _ 0 .i64 f1 (by kernel_rfl)
  obtain rfl : e1 = .int .i64 a1 := by have h9 : ([e1] : List Value)[0]? = some (Value.int .i64 a1) := ea1; simpa using h9
  obtain ⟨a2, ea2, w2⟩ := flat_cell 8 _ 3 _ _ 0 .i64 f2 (by kernel_rfl)
  obtain rfl : e2 = .int .i64 a2 := by have h9 : ([e2] : List Value)[0]? = some (Value.int .i64 a2) := ea2; simpa using h9
  obtain ⟨q3, g3, o3, n3, c3, l3, ee3, hl3, hk3, hm3, hp3, hg3, hc3⟩ := rows_of (n := 1) (D := 8) (fun _ => .i64) Tryz.underlying34 (by kernel_rfl) (by omega) (kinds_of (by kernel_rfl)) f3
  obtain rfl : e3 = .slice q3 n3 c3 := by have h9 : [e3] = [Value.slice q3 n3 c3] := ee3; simpa using h9
  obtain ⟨q4, g4, o4, n4, c4, l4, ee4, hl4, hk4, hm4, hp4, hg4, hc4⟩ := rows_of (n := 5) (D := 8) k64 Tryz.underlying22 (by kernel_rfl) (by omega) (kinds_of (by kernel_rfl)) f4
  obtain rfl : e4 = .slice q4 n4 c4 := by have h9 : [e4] = [Value.slice q4 n4 c4] := ee4; simpa using h9
  obtain ⟨q5, g5, o5, n5, c5, l5, ee5, hl5, hk5, hm5, hp5, hg5, hc5⟩ := rows_of (n := 76) (D := 8) ek Tryz.underlying31 (by kernel_rfl) (by omega) (kinds_of (by kernel_rfl)) f5
  obtain rfl : e5 = .slice q5 n5 c5 := by have h9 : [e5] = [Value.slice q5 n5 c5] := ee5; simpa using h9
  have hI := is_rows hl3 hk3 hm3 hp3 hg3 hc3
  have hO := sr_rows hl4 hk4 hm4 hp4 hg4 hc4
  have hE := sr_rows hl5 hk5 hm5 hp5 hg5 hc5
  have z3 := len_of Tryz.underlying34 f3 (fun n hn => hz n (by simp only [DataW.weights, Tryz.underlying36]; exact DataW.weights_mem_each (j := 3) rfl (by simp [hx3]) n hn))
  have z4 := len_of Tryz.underlying22 f4 (fun n hn => hz n (by simp only [DataW.weights, Tryz.underlying36]; exact DataW.weights_mem_each (j := 4) rfl (by simp [hx4]) n hn))
  have z5 := len_of Tryz.underlying31 f5 (fun n hn => hz n (by simp only [DataW.weights, Tryz.underlying36]; exact DataW.weights_mem_each (j := 5) rfl (by simp [hx5]) n hn))
  rw [show Tryz.prog.bytesOf 3 = 8 by kernel_rfl] at z3
  rw [show Tryz.prog.bytesOf 65 = 40 by kernel_rfl] at z4
  rw [show Tryz.prog.bytesOf 79 = 608 by kernel_rfl] at z5
  unfold reachBytes at z3 z4 z5
  have hWO : ∀ o ∈ l4, WO o := fun o ho i hi => by
    obtain ⟨j, hj⟩ := List.getElem?_of_mem ho
    exact bounds_i64 (hc4 j o hj i hi).2
  have hWE : ∀ o ∈ l5, WE o := fun o ho => by
    obtain ⟨j, hj⟩ := List.getElem?_of_mem ho
    have key : ∀ i, i < 76 → i ≠ 4 → Fit (o i) := fun i hi h4 => by
      have := (hc5 j o hj i hi).2
      unfold ek at this
      rw [if_neg h4] at this
      exact bounds_i64 this
    refine ⟨key 0 (by omega) (by omega), key 1 (by omega) (by omega), ?_, fun i hi h2 => key (2 + i) (by omega) (by omega)⟩
    have := (hc5 j o hj 4 (by omega)).2
    exact bounds_u64 this
  exact ⟨⟨a0, a1, a2, l3.map fun c => c 0, l4, l5⟩, _, _, _, rfl, hI.1, hO, hE, ⟨bounds_i64 w0, bounds_i64 w1, bounds_i64 w2, hI.2, hWO, hWE⟩, ⟨by simp; omega, by show l4.length ≤ _; omega, by show l5.length ≤ _; omega⟩⟩
end
end Go.Proofs.YtclfdagenaaalaaGreat
