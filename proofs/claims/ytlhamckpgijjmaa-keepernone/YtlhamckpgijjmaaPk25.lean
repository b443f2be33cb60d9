/-
  What comes in: slices of bytes, of numbers, and of slices of bytes.
  What comes in: a note.
  note.Spread, Places, Ballot.
-/
import Derived.Test.YtlhamckpgijjmaaPk06
import Derived.Test.YtlhamckpgijjmaaPk20
import Derived.Test.YtlhamckpgijjmaaPk24
import Derived.Test.YtlhamckpgijjmaaPk19
import Derived.SizedLaws
import Derived.Laws.CopyRow
import Derived.Laws.IdiomCopy
namespace Go.Proofs.Ytlhamckpgijjmaa
open Go.ChangeShapes Go.WideShapes Go.ChangeAt Go.RowKit
set_option linter.unusedVariables false

section
variable {H : Type} {enc : TypeId × Value → H} {w : World} {base : Nat} {spare : Nat → Bool} {held : Bool}
theorem bytes_rows {q : Option Addr} {g off len cap : Nat} {l : List (Nat → Int)} (hl : l.length = len) (hk : len ≤ cap) (hm : cap ≤ maxLen) (hp : 0 < len → q = some ⟨g, off, none⟩) (hg : 0 < len → g < w.heap.size)
    (hc : ∀ j c, l[j]? = some c → ∀ i, i < 1 → w.cell? ⟨g, off + j * 1 + i, none⟩ = some (.int ((fun _ => IntKind.u8) i) (c i)) ∧ (Lit.int ((fun _ => IntKind.u8) i) (c i)).wf = true) : ∃ m, Sl w (.slice q len cap) m ∧ Byt m := by
  have hb : ∀ c, c ∈ l → 0 ≤ c 0 ∧ c 0 ≤ 255 := fun c hcm => by
    obtain ⟨j, hj⟩ := List.getElem?_of_mem hcm
    have := (hc j c hj 0 (by omega)).2
    exact bounds_u8 this
  refine ⟨l.map fun c => (c 0).toNat, sl_of (by simpa using hl) hk hm hp hg (fun j x hx => ?_), fun x hx => ?_⟩
  · rw [List.getElem?_map] at hx
    cases h : l[j]? with
    | none => rw [h] at hx; simp at hx
    | some c =>
      rw [h] at hx
      simp at hx
      have h1 := (hc j c h 0 (by omega)).1
      have h2 := hb c (List.mem_of_getElem? h)
      rw [Nat.mul_one, Nat.add_zero] at h1
      rw [h1, ← hx]
      congr 2
      omega
  · obtain ⟨c, hcm, rfl⟩ := List.mem_map.1 hx
    have := hb c hcm
    omega
theorem is_rows {q : Option Addr} {g off len cap : Nat} {l : List (Nat → Int)} (hl : l.length = len) (hk : len ≤ cap) (hm : cap ≤ maxLen) (hp : 0 < len → q = some ⟨g, off, none⟩) (hg : 0 < len → g < w.heap.size)
    (hc : ∀ j c, l[j]? = some c → ∀ i, i < 1 → w.cell? ⟨g, off + j * 1 + i, none⟩ = some (.int ((fun _ => IntKind.i64) i) (c i)) ∧ (Lit.int ((fun _ => IntKind.i64) i) (c i)).wf = true) : Is w (.slice q len cap) (l.map fun c => c 0) ∧ In64 (l.map fun c => c 0) := by
  refine ⟨⟨q, cap, g, off, by simpa using hl.symm, by simpa [hl] using hk, hm, by simpa [hl] using hp, by simpa [hl] using hg, fun j x hx => ?_⟩, fun x hx => ?_⟩
  · rw [List.getElem?_map] at hx
    cases h : l[j]? with
    | none => rw [h] at hx; simp at hx
    | some c =>
      rw [h] at hx
      simp at hx
      have h1 := (hc j c h 0 (by omega)).1
      rw [Nat.mul_one, Nat.add_zero] at h1
      rw [h1, ← hx]
  · obtain ⟨c, hcm, rfl⟩ := List.mem_map.1 hx
    obtain ⟨j, hj⟩ := List.getElem?_of_mem hcm
    have := (hc j c hj 0 (by omega)).2
    exact ⟨(bounds_i64 this).1, (bounds_i64 this).2⟩
set_option maxRecDepth 100000 in
theorem open_bytes {r : Reach} {b0 : Nat} {v : Value} {d : DataW H} {p : List MemPlace} (hv : Value.okWide Try.prog w r b0 59 v) (h : DataW.Trod enc Try.prog w base spare held 59 v d p) : ∃ l, Sl w v l ∧ Byt l := by
  obtain ⟨q, g, off, len, cap, l, rfl, hl, hk, hm, hp, hg, hc⟩ := open_rows (n := 1) (D := 8) (fun _ => .u8) Try.underlying59 (by kernel_rfl) (by omega) (kinds_of (by kernel_rfl)) hv h
  exact bytes_rows hl hk hm hp hg hc
set_option maxRecDepth 100000 in
theorem open_lists {r : Reach} {b0 : Nat} {v : Value} {d : DataW H} {p : List MemPlace} (hv : Value.okWide Try.prog w r b0 65 v) (h : DataW.Trod enc Try.prog w base spare held 65 v d p) : ∃ vs ls, Ls w v vs ls ∧ ∀ l ∈ ls, Byt l := by
  obtain ⟨a, len, cap, rfl⟩ := okWide_slice Try.underlying65 hv
  obtain ⟨fuel, hf⟩ := h
  rcases Deep.open_slice1 Try.underlying65 (by kernel_rfl) hf with ⟨hcs, _⟩ | ⟨a', len', cap', m, n', V, D', Pl, hcs, hb, hl, hm, hmm, hx, hel⟩
  · have e1 : (Value.slice a len cap) = .slice none 0 0 := by simpa [Value.cells] using hcs
    cases e1
    exact ⟨[], [], ls_nil w, fun l h => by simp at h⟩
  · have e1 : (Value.slice a len cap) = .slice (some a') len' cap' := by simpa [Value.cells] using hcs
    cases e1
    have hle : len ≤ m := by rw [hmm]; split <;> omega
    have key : ∀ j, j < len → ∃ l, Sl w (V j) l ∧ Byt l := fun j hj => by
      obtain ⟨_, h2⟩ := hel j (by omega)
      obtain ⟨q, g, off, len2, cap2, l, e, hl, hk, hm, hp, hg, hc⟩ := rows_of (n := 1) (D := 8) (fun _ => .u8) Try.underlying59 (by kernel_rfl) (by omega) (kinds_of (by kernel_rfl)) h2
      have e2 : V j = .slice q len2 cap2 := by simpa using e
      rw [e2]
      exact bytes_rows hl hk hm hp hg hc
    obtain ⟨L, hL⟩ := Deep.choose_lt key
    refine ⟨(List.range len).map V, (List.range len).map L, ⟨by simp, ⟨some a', cap, by simp, by simpa using hl, hm, fun h0 => ?_⟩, fun j x l hx hl => ?_⟩, fun l hlm => ?_⟩
    · have h1 : 0 < len := by simpa using h0
      have hc0 := (hel 0 (by omega)).1
      have hs : a'.spot = none := by have := spot_of_cell hc0; simpa [Addr.add] using this
      refine ⟨a'.block, a'.off, ?_, ?_, fun j x hx => ?_⟩
      · obtain ⟨b, o, s⟩ := a'; cases hs; rfl
      · have := World.block_lt_of_cell? w _ hc0
        simpa [Addr.add] using this
      · have hj : j < len := by have := (List.getElem?_eq_some_iff.1 hx).1; simpa using this
        have hxj : x = V j := by simp [hj] at hx; exact hx.symm
        subst hxj
        have := (hel j (by omega)).1
        rwa [add_plain _ hs] at this
    · have hj : j < len := by have := (List.getElem?_eq_some_iff.1 hx).1; simpa using this
      have hxj : x = V j := by simp [hj] at hx; exact hx.symm
      have hlj : l = L j := by simp [hj] at hl; exact hl.symm
      subst hxj; subst hlj
      exact (hL j hj).1
    · obtain ⟨j, hj, rfl⟩ := List.mem_map.1 hlm
      exact (hL j (by simpa using hj)).2
set_option maxRecDepth 100000 in
theorem open_nums {r : Reach} {b0 : Nat} {v : Value} {d : DataW H} {p : List MemPlace} (hv : Value.okWide Try.prog w r b0 31 v) (h : DataW.Trod enc Try.prog w base spare held 31 v d p) : ∃ l, Is w v l ∧ In64 l := by
  obtain ⟨q, g, off, len, cap, l, rfl, hl, hk, hm, hp, hg, hc⟩ := open_rows (n := 1) (D := 8) (fun _ => .i64) Try.underlying31 (by kernel_rfl) (by omega) (kinds_of (by kernel_rfl)) hv h
  refine ⟨l.map fun c => c 0, ⟨q, cap, g, off, by simpa using hl.symm, by simpa [hl] using hk, hm, by simpa [hl] using hp, by simpa [hl] using hg, fun j x hx => ?_⟩, fun x hx => ?_⟩
  · rw [List.getElem?_map] at hx
    cases h : l[j]? with
    | none => rw [h] at hx; simp at hx
    | some c =>
      rw [h] at hx
      simp at hx
      have h1 := (hc j c h 0 (by omega)).1
      rw [Nat.mul_one, Nat.add_zero] at h1
      rw [h1, ← hx]
  · obtain ⟨c, hcm, rfl⟩ := List.mem_map.1 hx
    obtain ⟨j, hj⟩ := List.getElem?_of_mem hcm
    have := (hc j c hj 0 (by omega)).2
    exact ⟨(bounds_i64 this).1, (bounds_i64 this).2⟩
end
end Go.Proofs.Ytlhamckpgijjmaa
namespace Go.Proofs.Ytlhamckpgijjmaa
open Go.ChangeShapes Go.WideShapes Go.ChangeAt Go.RowKit
set_option linter.unusedVariables false

section
variable {H : Type} {enc : TypeId × Value → H} {P : Program} {w : World} {base : Nat} {spare : Nat → Bool} {held : Bool}
/-- A struct that came in: its cells, what each field reads as, and its plain data. -/
theorem open_struct2 {r : Reach} {b0 n : Nat} {t : TypeId} {fs : Array Field} {v : Value} {d : DataW H} {p : List MemPlace} (hu : P.underlying t = some (.struct fs)) (hC : P.cellsOf t = n)
    (hv : Value.okWide P w r b0 t v) (h : DataW.Trod enc P w base spare held t v d p) :
    ∃ cs : Array Value, v = .agg cs ∧ cs.size = n ∧ ∃ (m : Nat) (xs : List (DataW H × List MemPlace)), d = .agg (xs.map (·.1)) ∧ ∀ (i : Nat) (f : Field), fs[i]? = some f → ∃ x, xs[i]? = some x ∧ DataW.trod enc P w base spare held m f.type ((cs.toList.drop f.offset).take (P.cellsOf f.type)) = some x := by
  obtain ⟨cs, rfl, hs⟩ : ∃ cs, v = .agg cs ∧ cs.size = P.cellsOf t := by
    simp only [Value.okWide, hu] at hv
    obtain ⟨cs, h1, h2, _⟩ := hv; exact ⟨cs, h1, h2⟩
  obtain ⟨fuel, hf⟩ := h
  obtain ⟨xs, m, _, hd, _, hl, hx⟩ := DataW.trod_struct hu hf
  have hd1 : d = .agg (xs.map (·.1)) := congrArg Prod.fst hd
  refine ⟨cs, rfl, hs.trans hC, m, xs, hd1, fun i f hi => ?_⟩
  have := hx i f hi
  have hlt : i < xs.length := by rw [hl]; exact (Array.getElem?_eq_some_iff.1 hi).1
  rw [List.getElem?_eq_getElem hlt] at this
  exact ⟨_, List.getElem?_eq_getElem hlt, by simpa [Value.cells] using this⟩
/-- A slice that came in is not longer than what a machine reaches. -/
theorem len_of {fuel : Nat} {t e : TypeId} {q : Option Addr} {len cap : Nat} {x : DataW H × List MemPlace} (ht : P.underlying t = some (.slice e)) (hf : DataW.trod enc P w base spare held fuel t [.slice q len cap] = some x) (hw : ∀ n ∈ x.1.weights P t, n ≤ reachBytes) : len * P.bytesOf e ≤ reachBytes := by
  rcases Deep.open_slice ht hf with ⟨hcs, _⟩ | ⟨a', len', cap', m, n', D', Pl, hcs, hb, hl, hm, hmm, rfl, hel⟩
  · simp at hcs
    obtain ⟨-, rfl, -⟩ := hcs
    simp
  · simp at hcs
    obtain ⟨rfl, rfl, rfl⟩ := hcs
    have h1 := hw ((len + (m - len)) * P.bytesOf e) (by simp [DataW.weights, ht])
    exact Nat.le_trans (Nat.mul_le_mul_right _ (by omega)) h1
theorem sr_rows {k : Nat} {ks : Nat → IntKind} {q : Option Addr} {g off len cap : Nat} {l : List (Nat → Int)} (hl : l.length = len) (hk : len ≤ cap) (hm : cap ≤ maxLen) (hp : 0 < len → q = some ⟨g, off, none⟩) (hg : 0 < len → g < w.heap.size)
    (hc : ∀ j c, l[j]? = some c → ∀ i, i < k → w.cell? ⟨g, off + j * k + i, none⟩ = some (.int (ks i) (c i)) ∧ (Lit.int (ks i) (c i)).wf = true) : SR k ks w (.slice q len cap) l := by
  subst hl
  refine ⟨q, cap, g, off, rfl, hk, hm, hp, hg, fun j c hj i v hv => ?_⟩
  have hi : i < k := by have := (List.getElem?_eq_some_iff.1 hv).1; rwa [AG_len] at this
  rw [AG_at k ks c i hi] at hv
  cases hv
  exact (hc j c hj i hi).1
end
section
variable {H : Type} {enc : TypeId × Value → H} {w : World} {base : Nat} {spare : Nat → Bool} {held : Bool}
/-- How much a note that came in may hold. -/
def LenN (N : Nt) : Prop := N.ns.length ≤ 17592186043904 ∧ N.os.length ≤ 3518437208780 ∧ N.es.length ≤ 231476132156
set_option maxRecDepth 100000 in
set_option maxHeartbeats 1000000 in
theorem open_note {r : Reach} {b0 : Nat} {v : Value} {d : DataW H} {p : List MemPlace} (hv : Value.okWide Try.prog w r b0 35 v) (h : DataW.Trod enc Try.prog w base spare held 35 v d p) (hz : ∀ n ∈ d.weights Try.prog 35, n ≤ reachBytes) :
    ∃ (N : Nt) (vn vo ve : Value), v = ntV N vn vo ve ∧ Is w vn N.ns ∧ SR 5 k64 w vo N.os ∧ SR 76 ek w ve N.es ∧ WN N ∧ LenN N := by
  obtain ⟨cs, rfl, hs, m, xs, rfl, hx⟩ := open_struct2 (n := 6) Try.underlying35 (by kernel_rfl) hv h
  obtain ⟨e0, e1, e2, e3, e4, e5, rfl⟩ : ∃ e0 e1 e2 e3 e4 e5, cs = #[e0, e1, e2, e3, e4, e5] := by
    refine ⟨cs[0], cs[1], cs[2], cs[3], cs[4], cs[5], ?_⟩
    apply Array.ext
    · simpa using hs
    · intro i h1 h2
      have : i = 0 ∨ i = 1 ∨ i = 2 ∨ i = 3 ∨ i = 4 ∨ i = 5 := by omega
      rcases this with rfl | rfl | rfl | rfl | rfl | rfl <;> rfl
  obtain ⟨x0, hx0, f0⟩ := hx 0 _ rfl
  obtain ⟨x1, hx1, f1⟩ := hx 1 _ rfl
  obtain ⟨x2, hx2, f2⟩ := hx 2 _ rfl
  obtain ⟨x3, hx3, f3⟩ := hx 3 _ rfl
  obtain ⟨x4, hx4, f4⟩ := hx 4 _ rfl
  obtain ⟨x5, hx5, f5⟩ := hx 5 _ rfl
  obtain ⟨a0, ea0, w0⟩ := flat_cell 8 _ 3 _ _ 0 .i64 f0 (by kernel_rfl)
  obtain rfl : e0 = .int .i64 a0 := by have h9 : ([e0] : List Value)[0]? = some (Value.int .i64 a0) := ea0; simpa using h9
  obtain ⟨a1, ea1, w1⟩ := flat_cell 8 _ 3 _ _ 0 .i64 f1 (by kernel_rfl)
  obtain rfl : e1 = .int .i64 a1 := by have h9 : ([e1] : List Value)[0]? = some (Value.int .i64 a1) := ea1; simpa using h9
  obtain ⟨a2, ea2, w2⟩ := flat_cell 8 _ 3 _ _ 0 .i64 f2 (by kernel_rfl)
  obtain rfl : e2 = .int .i64 a2 := by have h9 : ([e2] : List Value)[0]? = some (Value.int .i64 a2) := ea2; simpa using h9
  obtain ⟨q3, g3, o3, n3, c3, l3, ee3, hl3, hk3, hm3, hp3, hg3, hc3⟩ := rows_of (n := 1) (D := 8) (fun _ => .i64) Try.underlying31 (by kernel_rfl) (by omega) (kinds_of (by kernel_rfl)) f3
  obtain rfl : e3 = .slice q3 n3 c3 := by have h9 : [e3] = [Value.slice q3 n3 c3] := ee3; simpa using h9
  obtain ⟨q4, g4, o4, n4, c4, l4, ee4, hl4, hk4, hm4, hp4, hg4, hc4⟩ := rows_of (n := 5) (D := 8) k64 Try.underlying32 (by kernel_rfl) (by omega) (kinds_of (by kernel_rfl)) f4
  obtain rfl : e4 = .slice q4 n4 c4 := by have h9 : [e4] = [Value.slice q4 n4 c4] := ee4; simpa using h9
  obtain ⟨q5, g5, o5, n5, c5, l5, ee5, hl5, hk5, hm5, hp5, hg5, hc5⟩ := rows_of (n := 76) (D := 8) ek Try.underlying33 (by kernel_rfl) (by omega) (kinds_of (by kernel_rfl)) f5
  obtain rfl : e5 = .slice q5 n5 c5 := by have h9 : [e5] = [Value.slice q5 n5 c5] := ee5; simpa using h9
  have hI := is_rows hl3 hk3 hm3 hp3 hg3 hc3
  have hO := sr_rows hl4 hk4 hm4 hp4 hg4 hc4
  have hE := sr_rows hl5 hk5 hm5 hp5 hg5 hc5
  have z3 := len_of Try.underlying31 f3 (fun n hn => hz n (by simp only [DataW.weights, Try.underlying35]; exact DataW.weights_mem_each (j := 3) rfl (by simp [hx3]) n hn))
  have z4 := len_of Try.underlying32 f4 (fun n hn => hz n (by simp only [DataW.weights, Try.underlying35]; exact DataW.weights_mem_each (j := 4) rfl (by simp [hx4]) n hn))
  have z5 := len_of Try.underlying33 f5 (fun n hn => hz n (by simp only [DataW.weights, Try.underlying35]; exact DataW.weights_mem_each (j := 5) rfl (by simp [hx5]) n hn))
  rw [show Try.prog.bytesOf 3 = 8 by kernel_rfl] at z3
  rw [show Try.prog.bytesOf 86 = 40 by kernel_rfl] at z4
  rw [show Try.prog.bytesOf 97 = 608 by kernel_rfl] at z5
  unfold reachBytes at z3 z4 z5
  have hWO : ∀ o ∈ l4, WO o := fun o ho i hi => by
    obtain ⟨j, hj⟩ := List.getElem?_of_mem ho
    exact bounds_i64 (hc4 j o hj i hi).2
  have hWE : ∀ o ∈ l5, WE o := fun o ho => by
    obtain ⟨j, hj⟩ := List.getElem?_of_mem ho
    have key : ∀ i, i < 76 → i ≠ 4 → Fit (o i) := fun i hi h4 => by
      have := (hc5 j o hj i hi).2
      unfold ek at this
      rw [if_neg h4] at this
      exact bounds_i64 this
    refine ⟨key 0 (by omega) (by omega), key 1 (by omega) (by omega), ?_, fun i hi h2 => key (2 + i) (by omega) (by omega)⟩
    have := (hc5 j o hj 4 (by omega)).2
    exact bounds_u64 this
  exact ⟨⟨a0, a1, a2, l3.map fun c => c 0, l4, l5⟩, _, _, _, rfl, hI.1, hO, hE, ⟨bounds_i64 w0, bounds_i64 w1, bounds_i64 w2, hI.2, hWO, hWE⟩, ⟨by simp; omega, by show l4.length ≤ _; omega, by show l5.length ≤ _; omega⟩⟩
end
end Go.Proofs.Ytlhamckpgijjmaa
namespace Go.Proofs.Ytlhamckpgijjmaa
open Go.RowKit Go.Shelf
set_option linter.unusedVariables false

/-- A place's numbers; the places of numbers. -/
def plN (p : Nat → Int) : List Int := [p 0, p 1]
def plAt (l : List Int) (j : Nat) : Nat → Int := fun i => l.getD (2 * j + i) 0
def plsL (l : List Int) (m : Nat) : List (Nat → Int) := (List.range m).map (plAt l)
theorem plsL_len (l : List Int) (m : Nat) : (plsL l m).length = m := by simp [plsL]
def plsU (l : List Int) (m j : Nat) : List (Nat → Int) := plsL l j ++ List.replicate (m - j) zc
theorem plsU_next (l : List Int) (m j : Nat) (h : j < m) : (plsU l m j).set j (plAt l j) = plsU l m (j + 1) := by
  obtain ⟨d, rfl⟩ : ∃ d, m = j + d + 1 := ⟨m - j - 1, by omega⟩
  unfold plsU
  rw [List.set_append_right _ _ (by simp [plsL]), plsL_len, Nat.sub_self, show j + d + 1 - j = d + 1 by omega, show j + d + 1 - (j + 1) = d by omega, List.replicate_succ, List.set_cons_zero]
  unfold plsL
  rw [List.range_succ, List.map_append, List.append_assoc]
  rfl
theorem plsU_end (l : List Int) (m : Nat) : plsU l m m = plsL l m := by simp [plsU]
theorem plN_len : ∀ ps : List (Nat → Int), (ps.flatMap plN).length = 2 * ps.length
  | [] => rfl
  | p :: ps => by rw [List.flatMap_cons, List.length_append, plN_len ps]; simp [plN]; omega
theorem plN_at : ∀ (ps : List (Nat → Int)) (j : Nat) (p : Nat → Int), ps[j]? = some p → (ps.flatMap plN)[2 * j]? = some (p 0) ∧ (ps.flatMap plN)[2 * j + 1]? = some (p 1)
  | [], j, p, h => by simp at h
  | x :: ps, 0, p, h => by simp at h; subst h; simp [plN]
  | x :: ps, j + 1, p, h => by
    have := plN_at ps j p (by simpa using h)
    rw [List.flatMap_cons]
    refine ⟨?_, ?_⟩
    · rw [List.getElem?_append_right (by simp [plN]; omega), show 2 * (j + 1) - (plN x).length = 2 * j by simp [plN]; omega]; exact this.1
    · rw [List.getElem?_append_right (by simp [plN]; omega), show 2 * (j + 1) + 1 - (plN x).length = 2 * j + 1 by simp [plN]; omega]; exact this.2
/-- Places come back. -/
theorem pls_back (ps : List (Nat → Int)) : EqL 2 (plsL (ps.flatMap plN) ps.length) ps := by
  refine ⟨plsL_len _ _, fun j a b ha hb i hi => ?_⟩
  have hj : j < ps.length := (List.getElem?_eq_some_iff.1 hb).1
  simp [plsL, hj] at ha
  subst ha
  have := plN_at ps j b hb
  unfold plAt
  have hi2 : i = 0 ∨ i = 1 := by omega
  rcases hi2 with rfl | rfl
  · rw [Nat.add_zero, List.getD_eq_getElem?_getD, this.1]; rfl
  · rw [List.getD_eq_getElem?_getD, this.2]; rfl
/-- Numbers come back. -/
theorem nums_pls (l : List Int) (m : Nat) (hm : 2 * m ≤ l.length) : (plsL l m).flatMap plN = l.take (2 * m) := by
  apply List.ext_getElem?
  intro k
  by_cases hk : k < 2 * m
  · have h2 : k / 2 < m := by omega
    have hj : (plsL l m)[k / 2]? = some (plAt l (k / 2)) := by simp [plsL, h2]
    have := plN_at _ _ _ hj
    rw [List.getElem?_take_of_lt hk]
    have hp : k % 2 = 0 ∨ k % 2 = 1 := by omega
    rcases hp with hp | hp
    · have e : 2 * (k / 2) = k := by omega
      rw [e] at this
      rw [this.1]
      unfold plAt
      rw [e, Nat.add_zero, List.getD_eq_getElem?_getD, List.getElem?_eq_getElem (by omega)]; rfl
    · have e : 2 * (k / 2) + 1 = k := by omega
      rw [e] at this
      rw [this.2]
      unfold plAt
      rw [e, List.getD_eq_getElem?_getD, List.getElem?_eq_getElem (by omega)]; rfl
  · rw [List.getElem?_eq_none (by rw [plN_len, plsL_len]; omega), List.getElem?_eq_none (by rw [List.length_take]; omega)]
theorem cells_pl {W : World} {g o : Nat} {c : Nat → Int} (h : W.rangeAt g o (AG 2 k64 c).toList) : W.cell? ⟨g, o, none⟩ = some (.int .i64 (c 0)) ∧ W.cell? ⟨g, o + 1, none⟩ = some (.int .i64 (c 1)) := ⟨h 0 _ rfl, h 1 _ rfl⟩
theorem infoPlc : (Try.prog.info? 88).map (fun i => (i.zero, i.size, i.bytes)) = some (some (.agg (AG 2 k64 zc)), 2, 16) := by kernel_rfl
theorem info_plz : (Try.prog.info? 88).map (·.size) = some 2 := by kernel_rfl

section
variable {ops : Array Oper} {rest : List Oper} {o : Oper} {a : Act} {w : World} {Q : Exit → Act → World → Prop}
/-- A struct into the middle of an own row. -/
theorem st_so (hw : Region.wanted o (yielded ops a.tmps) = true) {e : TypeId} {k : Nat} {ks : Nat → IntKind} (hk : 0 < k) (hi : (Try.prog.info? e).map (·.size) = some k) {x y : Operand} (ho : o.op = .store e x y) {base n g cap m : Nat} {L : List (Nat → Int)}
    (h : w.ownsRow base e k (.slice (some ⟨g, 0, none⟩) n cap) n (flatA k ks L)) (hm : m < n) (c : Nat → Int) (hx : a.eval x = .pointer (some ⟨g, m * k, none⟩)) (hy : a.eval y = .agg (AG k ks c))
    (hK : ∀ W', W'.ownsRow base e k (.slice (some ⟨g, 0, none⟩) n cap) n (flatA k ks (L.set m c)) → Chg g w W' → wpList Try.prog ops Q rest (a.put o.dst undef) W') : wpList Try.prog ops Q (o :: rest) a w := by
  unfold wpList
  rw [if_pos hw]
  left
  exact soW o.dst rfl hk hi ho h hm c hx hy hK
end

end Go.Proofs.Ytlhamckpgijjmaa
