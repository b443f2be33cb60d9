/-
  What comes in: slices of bytes, of numbers, and of slices of bytes.
-/
import Derived.Test.YtfnageillhpjpaaPk24
import Derived.Test.YtfnageillhpjpaaPk09
namespace Go.Proofs.Ytfnageillhpjpaa
set_option maxRecDepth 100000
open Go.ChangeShapes Go.WideShapes Go.ChangeAt Go.RowKit
set_option linter.unusedVariables false

section
variable {H : Type} {enc : TypeId × Value → H} {w : World} {base : Nat} {spare : Nat → Bool} {held : Bool}
theorem bytes_rows {q : Option Addr} {g off len cap : Nat} {l : List (Nat → Int)} (hl : l.length = len) (hk : len ≤ cap) (hm : cap ≤ maxLen) (hp : 0 < len → q = some ⟨g, off, none⟩) (hg : 0 < len → g < w.heap.size)
    (hc : ∀ j c, l[j]? = some c → ∀ i, i < 1 → w.cell? ⟨g, off + j * 1 + i, none⟩ = some (.int ((fun _ => IntKind.u8) i) (c i)) ∧ (Lit.int ((fun _ => IntKind.u8) i) (c i)).wf = true) : ∃ m, Sl w (.slice q len cap) m ∧ Byt m := by
  have hb : ∀ c, c ∈ l → 0 ≤ c 0 ∧ c 0 ≤ 255 := fun c hcm => by
    obtain ⟨j, hj⟩ := List.getElem?_of_mem hcm
    have := (hc j c hj 0 (by omega)).2
    exact bounds_u8 this
  refine ⟨l.map fun c => (c 0).toNat, sl_of (by simpa using hl) hk hm hp hg (fun j x hx => ?_), fun x hx => ?_⟩
  · rw [List.getElem?_map] at hx
    cases h : l[j]? with
    | none => rw [h] at hx; simp at hx
    | some c =>
      rw [h] at hx
      simp at hx
      have h1 := (hc j c h 0 (by omega)).1
      have h2 := hb c (List.mem_of_getElem? h)
      rw [Nat.mul_one, Nat.add_zero] at h1
      rw [h1, ← hx]
      congr 2
      omega
  · obtain ⟨c, hcm, rfl⟩ := List.mem_map.1 hx
    have := hb c hcm
    omega
theorem is_rows {q : Option Addr} {g off len cap : Nat} {l : List (Nat → Int)} (hl : l.length = len) (hk : len ≤ cap) (hm : cap ≤ maxLen) (hp : 0 < len → q = some ⟨g, off, none⟩) (hg : 0 < len → g < w.heap.size)
    (hc : ∀ j c, l[j]? = some c → ∀ i, i < 1 → w.cell? ⟨g, off + j * 1 + i, none⟩ = some (.int ((fun _ => IntKind.i64) i) (c i)) ∧ (Lit.int ((fun _ => IntKind.i64) i) (c i)).wf = true) : Is w (.slice q len cap) (l.map fun c => c 0) ∧ In64 (l.map fun c => c 0) := by
  refine ⟨⟨q, cap, g, off, by simpa using hl.symm, by simpa [hl] using hk, hm, by simpa [hl] using hp, by simpa [hl] using hg, fun j x hx => ?_⟩, fun x hx => ?_⟩
  · rw [List.getElem?_map] at hx
    cases h : l[j]? with
    | none => rw [h] at hx; simp at hx
    | some c =>
      rw [h] at hx
      simp at hx
      have h1 := (hc j c h 0 (by omega)).1
      rw [Nat.mul_one, Nat.add_zero] at h1
      rw [h1, ← hx]
  · obtain ⟨c, hcm, rfl⟩ := List.mem_map.1 hx
    obtain ⟨j, hj⟩ := List.getElem?_of_mem hcm
    have := (hc j c hj 0 (by omega)).2
    exact ⟨(bounds_i64 this).1, (bounds_i64 this).2⟩
set_option maxRecDepth 100000 in
theorem open_nums {r : Reach} {b0 : Nat} {v : Value} {d : DataW H} {p : List MemPlace} (hv : Value.okWide Try.prog w r b0 23 v) (h : DataW.Trod enc Try.prog w base spare held 23 v d p) : ∃ l, Is w v l ∧ In64 l := by
  obtain ⟨q, g, off, len, cap, l, rfl, hl, hk, hm, hp, hg, hc⟩ := open_rows (n := 1) (D := 8) (fun _ => .i64) Try.underlying23 (by kernel_rfl) (by omega) (kinds_of (by kernel_rfl)) hv h
  refine ⟨l.map fun c => c 0, ⟨q, cap, g, off, by simpa using hl.symm, by simpa [hl] using hk, hm, by simpa [hl] using hp, by simpa [hl] using hg, fun j x hx => ?_⟩, fun x hx => ?_⟩
  · rw [List.getElem?_map] at hx
    cases h : l[j]? with
    | none => rw [h] at hx; simp at hx
    | some c =>
      rw [h] at hx
      simp at hx
      have h1 := (hc j c h 0 (by omega)).1
      rw [Nat.mul_one, Nat.add_zero] at h1
      rw [h1, ← hx]
  · obtain ⟨c, hcm, rfl⟩ := List.mem_map.1 hx
    obtain ⟨j, hj⟩ := List.getElem?_of_mem hcm
    have := (hc j c hj 0 (by omega)).2
    exact ⟨(bounds_i64 this).1, (bounds_i64 this).2⟩
end
end Go.Proofs.Ytfnageillhpjpaa
