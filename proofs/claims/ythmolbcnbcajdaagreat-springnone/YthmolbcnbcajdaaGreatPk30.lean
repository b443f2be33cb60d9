/-
  What comes in: slices of bytes, of numbers, and of slices of bytes.
-/
import Derived.Test.YthmolbcnbcajdaaGreatPk22
import Derived.Test.YthmolbcnbcajdaaGreatPk08
namespace Go.Proofs.YthmolbcnbcajdaaGreat
set_option maxRecDepth 100000
open Go.ChangeShapes Go.WideShapes Go.ChangeAt Go.RowKit
set_option linter.unusedVariables false

section
variable {H : Type} {enc : TypeId × Value → H} {w : World} {base : Nat} {spare : Nat → Bool} {held : Bool}
theorem bytes_rows {q : Option Addr} {g off len cap : Nat} {l : List (Nat → Int)} (hl : l.length = len) (hk : len ≤ cap) (hm : cap ≤ maxLen) (hp : 0 < len → q = some ⟨g, off, none⟩) (hg : 0 < len → g < w.heap.size)
    (hc : ∀ j c, l[j]? = some c → ∀ i, i < 1 → w.cell? ⟨g, off + j * 1 + i, none⟩ = some (.int ((fun _ => IntKind.u8) i) (c i)) ∧ (Lit.int ((fun _ => IntKind.u8) i) (c i)).wf = true) : ∃ m, Sl w (.slice q len cap) m ∧ Byt m := by
  have hb : ∀ c, c ∈ l → 0 ≤ c 0 ∧ c 0 ≤ 255 := fun c hcm => by
    obtain ⟨j, hj⟩ := List.getElem?_of_mem hcm
    have := (hc j c hj 0 (by omega)).2
    exact bounds_u8 this
  refine ⟨l.map fun c => (c 0).toNat, sl_of (by simpa using hl) hk hm hp hg (fun j x hx => ?_), fun x hx => ?_⟩
  · rw [List.getElem?_map] at hx
    cases h : l[j]? with
    | none => rw [h] at hx; simp at hx
    | some c =>
      rw [h] at hx
      simp at hx
      have h1 := (hc j c h 0 (by omega)).1
      have h2 := hb c (List.mem_of_getElem? h)
      rw [Nat.mul_one, Nat.add_zero] at h1
      rw [h1, ← hx]
      congr 2
      omega
  · obtain ⟨c, hcm, rfl⟩ := List.mem_map.1 hx
    have := hb c hcm
    omega
theorem is_rows {q : Option Addr} {g off len cap : Nat} {l : List (Nat → Int)} (hl : l.length = len) (hk : len ≤ cap) (hm : cap ≤ maxLen) (hp : 0 < len → q = some ⟨g, off, none⟩) (hg : 0 < len → g < w.heap.size)
    (hc : ∀ j c, l[j]? = some c → ∀ i, i < 1 → w.cell? ⟨g, off + j * 1 + i, none⟩ = some (.int ((fun _ => IntKind.i64) i) (c i)) ∧ (Lit.int ((fun _ => IntKind.i64) i) (c i)).wf = true) : Is w (.slice q len cap) (l.map fun c => c 0) ∧ In64 (l.map fun c => c 0) := by
  refine ⟨⟨q, cap, g, off, by simpa using hl.symm, by simpa [hl] using hk, hm, by simpa [hl] using hp, by simpa [hl] using hg, fun j x hx => ?_⟩, fun x hx => ?_⟩
  · rw [List.getElem?_map] at hx
    cases h : l[j]? with
    | none => rw [h] at hx; simp at hx
    | some c =>
      rw [h] at hx
      simp at hx
      have h1 := (hc j c h 0 (by omega)).1
      rw [Nat.mul_one, Nat.add_zero] at h1
      rw [h1, ← hx]
  · obtain ⟨c, hcm, rfl⟩ := List.mem_map.1 hx
    obtain ⟨j, hj⟩ := List.getElem?_of_mem hcm
    have := (hc j c hj 0 (by omega)).2
    exact ⟨(bounds_i64 this).1, (bounds_i64 this).2⟩
set_option maxRecDepth 100000 in
theorem open_bytes {r : Reach} {b0 : Nat} {v : Value} {d : DataW H} {p : List MemPlace} (hv : Value.okWide Tryz.prog w r b0 68 v) (h : DataW.Trod enc Tryz.prog w base spare held 68 v d p) : ∃ l, Sl w v l ∧ Byt l := by
  obtain ⟨q, g, off, len, cap, l, rfl, hl, hk, hm, hp, hg, hc⟩ := open_rows (n := 1) (D := 8) (fun _ => .u8) Tryz.underlying68 (by kernel_rfl) (by omega) (kinds_of (by kernel_rfl)) hv h
  exact bytes_rows hl hk hm hp hg hc
set_option maxRecDepth 100000 in
theorem open_lists {r : Reach} {b0 : Nat} {v : Value} {d : DataW H} {p : List MemPlace} (hv : Value.okWide Tryz.prog w r b0 56 v) (h : DataW.Trod enc Tryz.prog w base spare held 56 v d p) : ∃ vs ls, Ls w v vs ls ∧ ∀ l ∈ ls, Byt l := by
  obtain ⟨a, len, cap, rfl⟩ := okWide_slice Tryz.underlying56 hv
  obtain ⟨fuel, hf⟩ := h
  rcases Deep.open_slice1 Tryz.underlying56 (by kernel_rfl) hf with ⟨hcs, _⟩ | ⟨a', len', cap', m, n', V, D', Pl, hcs, hb, hl, hm, hmm, hx, hel⟩
  · have e1 : (Value.slice a len cap) = .slice none 0 0 := by simpa [Value.cells] using hcs
    cases e1
    exact ⟨[], [], ls_nil w, fun l h => by simp at h⟩
  · have e1 : (Value.slice a len cap) = .slice (some a') len' cap' := by simpa [Value.cells] using hcs
    cases e1
    have hle : len ≤ m := by rw [hmm]; split <;> omega
    have key : ∀ j, j < len → ∃ l, Sl w (V j) l ∧ Byt l := fun j hj => by
      obtain ⟨_, h2⟩ := hel j (by omega)
      obtain ⟨q, g, off, len2, cap2, l, e, hl, hk, hm, hp, hg, hc⟩ := rows_of (n := 1) (D := 8) (fun _ => .u8) Tryz.underlying68 (by kernel_rfl) (by omega) (kinds_of (by kernel_rfl)) h2
      have e2 : V j = .slice q len2 cap2 := by simpa using e
      rw [e2]
      exact bytes_rows hl hk hm hp hg hc
    obtain ⟨L, hL⟩ := Deep.choose_lt key
    refine ⟨(List.range len).map V, (List.range len).map L, ⟨by simp, ⟨some a', cap, by simp, by simpa using hl, hm, fun h0 => ?_⟩, fun j x l hx hl => ?_⟩, fun l hlm => ?_⟩
    · have h1 : 0 < len := by simpa using h0
      have hc0 := (hel 0 (by omega)).1
      have hs : a'.spot = none := by have := spot_of_cell hc0; simpa [Addr.add] using this
      refine ⟨a'.block, a'.off, ?_, ?_, fun j x hx => ?_⟩
      · obtain ⟨b, o, s⟩ := a'; cases hs; rfl
      · have := World.block_lt_of_cell? w _ hc0
        simpa [Addr.add] using this
      · have hj : j < len := by have := (List.getElem?_eq_some_iff.1 hx).1; simpa using this
        have hxj : x = V j := by simp [hj] at hx; exact hx.symm
        subst hxj
        have := (hel j (by omega)).1
        rwa [add_plain _ hs] at this
    · have hj : j < len := by have := (List.getElem?_eq_some_iff.1 hx).1; simpa using this
      have hxj : x = V j := by simp [hj] at hx; exact hx.symm
      have hlj : l = L j := by simp [hj] at hl; exact hl.symm
      subst hxj; subst hlj
      exact (hL j hj).1
    · obtain ⟨j, hj, rfl⟩ := List.mem_map.1 hlm
      exact (hL j (by simpa using hj)).2
set_option maxRecDepth 100000 in
theorem open_nums {r : Reach} {b0 : Nat} {v : Value} {d : DataW H} {p : List MemPlace} (hv : Value.okWide Tryz.prog w r b0 22 v) (h : DataW.Trod enc Tryz.prog w base spare held 22 v d p) : ∃ l, Is w v l ∧ In64 l := by
  obtain ⟨q, g, off, len, cap, l, rfl, hl, hk, hm, hp, hg, hc⟩ := open_rows (n := 1) (D := 8) (fun _ => .i64) Tryz.underlying22 (by kernel_rfl) (by omega) (kinds_of (by kernel_rfl)) hv h
  refine ⟨l.map fun c => c 0, ⟨q, cap, g, off, by simpa using hl.symm, by simpa [hl] using hk, hm, by simpa [hl] using hp, by simpa [hl] using hg, fun j x hx => ?_⟩, fun x hx => ?_⟩
  · rw [List.getElem?_map] at hx
    cases h : l[j]? with
    | none => rw [h] at hx; simp at hx
    | some c =>
      rw [h] at hx
      simp at hx
      have h1 := (hc j c h 0 (by omega)).1
      rw [Nat.mul_one, Nat.add_zero] at h1
      rw [h1, ← hx]
  · obtain ⟨c, hcm, rfl⟩ := List.mem_map.1 hx
    obtain ⟨j, hj⟩ := List.getElem?_of_mem hcm
    have := (hc j c hj 0 (by omega)).2
    exact ⟨(bounds_i64 this).1, (bounds_i64 this).2⟩
end
end Go.Proofs.YthmolbcnbcajdaaGreat
