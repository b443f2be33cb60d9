/-
  estuarynum.Apart at a list of slices that was just made.
-/
import Derived.Test.YtgimkaklocmhkaaFrZ
namespace Go.Proofs.Ytgimkaklocmhkaa
open Go.RowKit
set_option linter.unusedVariables false

theorem getD_some {α : Type} {l : List α} {j : Nat} (d : α) (h : j < l.length) : l[j]? = some (l.getD j d) := by
  rw [List.getD_eq_getElem?_getD, List.getElem?_eq_getElem h]; rfl
theorem apart_bag (A : World) (gl cap n : Nat) (vs : List Value) (ls : List (List Nat)) (w : World) (hA : Below A.heap.size A w) (hB : Bag w A.heap.size vs ls) (hr : ∀ j x, vs[j]? = some x → w.cell? ⟨gl, j, none⟩ = some x) (hn : vs.length = n) (hn3 : n ≤ 300) (hl : ∀ l ∈ ls, l.length ≤ 110000) (hgl : gl < w.heap.size)
    (hsg : ∀ (j : Nat) (u : Value), vs[j]? = some u → Sep u (.slice (some ⟨gl, 0, none⟩) n cap)) :
    Calls Try.prog 16 #[.slice (some ⟨gl, 0, none⟩) n cap] w fun e w' => e = .returned (.bool true) ∧ Below A.heap.size A w' := by
  have hv : ∀ j, j < n → vs[j]? = some (vs.getD j .nilIface) := fun j hj => getD_some _ (by omega)
  have hc : ∀ j, j < n → ls[j]? = some (ls.getD j []) := fun j hj => getD_some _ (by have := hB.len; omega)
  exact apart_any A gl 0 cap n (fun j => vs.getD j .nilIface) (fun j => ls.getD j []) w hA
    ⟨fun j hj => hB.own j _ _ (hv j hj) (hc j hj), fun j hj => by rw [Nat.zero_add]; exact hr j _ (hv j hj)⟩ hn3 (fun j hj => hl _ (List.mem_of_getElem? (hc j hj))) hgl
    (fun i j hi hj hij => hB.sep i j _ _ hij (hv i hi) (hv j hj)) (fun j hj => (hsg j _ (hv j hj)).symm)
theorem apart_new (A W W' : World) (vs : List Value) (ls : List (List Nat)) (n : Nat) (hA : Below A.heap.size A W) (hB : Bag W A.heap.size vs ls) (hbk : Blk W' W.heap.size vs.toArray 22) (hb : Below W.heap.size W W') (hn : vs.length = n) (hn3 : n ≤ 300) (hl : ∀ l ∈ ls, l.length ≤ 110000) :
    Calls Try.prog 16 #[.slice (some ⟨W.heap.size, 0, none⟩) n n] W' fun e w' => e = .returned (.bool true) ∧ Below A.heap.size A w' :=
  apart_bag A W.heap.size n n vs ls W' (ab_trans hA hb) (hB.keep hb) (fun j x hx => hbk.at (by simpa using hx)) hn hn3 hl hbk.lt
    (fun j u hu => sep_lt (fun k hk => (hB.lt hu k hk).2) (fun k hk => by simp [Value.ownBlock] at hk; omega))
theorem bag1 {W : World} {base : Nat} {v : Value} {l : List Nat} (h : Ow W base v l) : Bag W base [v] [l] := (Bag.nil W base).snoc h (fun j x hx => by simp at hx)
theorem bag_snoc {W : World} {base : Nat} {vs : List Value} {ls : List (List Nat)} {v : Value} {l : List Nat} (h : Bag W base vs ls) (hv : Ow W base v l) (hs : ∀ x ∈ vs, Sep x v) : Bag W base (vs ++ [v]) (ls ++ [l]) := h.snoc hv (fun j x hx => hs x (List.mem_of_getElem? hx))
theorem sep_nil (v : Value) (n c : Nat) : Sep v (.slice none n c) := fun k _ he => by cases he
/-- Made later. -/
theorem sep_new {W W' : World} {base base' : Nat} {v u : Value} {l m : List Nat} (hv : Ow W base v l) (hu : Ow W' base' u m) (hb : W.heap.size ≤ base') : Sep v u := sep_lt (fun k hk => (hv.lt k hk).2) (fun k hk => Nat.le_trans hb (hu.lt k hk).1)
end Go.Proofs.Ytgimkaklocmhkaa
