/-
  What the laws on changes share: nothing but the block of a slice has turned; marked copies that are written over; errors held against none.
-/
import Derived.Test.YtddpdmolknfjaaaChC
import Derived.Test.YtddpdmolknfjaaaMvs
namespace Go.Proofs.Ytddpdmolknfjaaa
open Go.RowKit
set_option linter.unusedVariables false

/-- Nothing but the block of a slice has turned. -/
def Onl (v : Value) (V W : World) : Prop := (∀ g, v.ownBlock = some g → Chg g V W) ∧ (v.ownBlock = none → W = V)
theorem Onl.refl (v : Value) (V : World) : Onl v V V := ⟨fun g _ => Chg.refl _ _, fun _ => rfl⟩
theorem Onl.set {v : Value} {V W : World} {g : Nat} (h : Onl v V W) (hg : v.ownBlock = some g) (i : Nat) (x : Value) : Onl v V (W.setCell ⟨g, i, none⟩ x) :=
  ⟨fun g' h' => by rw [hg] at h'; cases h'; exact (h.1 g hg).trans (chg_set _ _ _ _), fun h' => by rw [hg] at h'; cases h'⟩
theorem Onl.blk {v : Value} {V W : World} (h : Onl v V W) {b : Nat} {cs : Array Value} {t : TypeId} (hB : Blk V b cs t) (hn : v.ownBlock ≠ some b) : Blk W b cs t := by
  cases hv : v.ownBlock with
  | none => rw [h.2 hv]; exact hB
  | some g => exact hB.chg (h.1 g hv) (fun e => hn (by rw [hv, e]))
theorem Onl.own {v u : Value} {V W : World} (h : Onl v V W) {base e s n : Nat} {xs : List Value} (hO : V.ownsRow base e s u n xs) (hs : Sep v u) : W.ownsRow base e s u n xs := by
  cases hv : v.ownBlock with
  | none => rw [h.2 hv]; exact hO
  | some g => exact own_at hO (fun k hk => (h.1 g hv).other k (fun e => hs g hv (by rw [hk, e])))
theorem Onl.io {v u : Value} {V W : World} (h : Onl v V W) {base : Nat} {l : List Int} (hO : Io V base u l) (hs : Sep v u) : Io W base u l := h.own hO hs
theorem Onl.cn {v u : Value} {V W : World} (h : Onl v V W) {base : Nat} {l : List Int} (hO : Cn V base u l) (hs : Sep v u) : Cn W base u l := by
  obtain ⟨g, cap, rfl, h1⟩ := hO
  exact ⟨g, cap, rfl, h.io h1 hs⟩
theorem Onl.below {v : Value} {V W : World} (h : Onl v V W) {n : Nat} (hn : ∀ g, v.ownBlock = some g → n ≤ g) : Below n V W := by
  cases hv : v.ownBlock with
  | none => rw [h.2 hv]; exact Below.refl _ _
  | some g => exact (h.1 g hv).below (hn g hv)
theorem Cn.lt {W : World} {base : Nat} {v : Value} {l : List Int} (h : Cn W base v l) : ∀ k, v.ownBlock = some k → base ≤ k ∧ k < W.heap.size := by
  obtain ⟨g, cap, rfl, h1⟩ := h
  intro k hk
  exact h1.lt k hk
/-- A marked copy as a row of the call's own. -/
theorem Cn.row {W : World} {base n : Nat} {v : Value} {l : List Int} (h : Cn W base v l) (hn : l.length = n) : ∃ g cap, v = .slice (some ⟨g, 0, none⟩) n cap ∧ W.ownsRow base 3 1 (.slice (some ⟨g, 0, none⟩) (n + 1) cap) (n + 1) (ints (l ++ [-77])) := by
  subst hn
  obtain ⟨g, cap, rfl, h1⟩ := h
  refine ⟨g, cap, rfl, ?_⟩
  unfold Io at h1
  have e : (l ++ [-77]).length = l.length + 1 := by simp
  rwa [e] at h1
theorem eq_ck (k : Int) (a b : Nat) (w : World) : (binOp .eql 42 (errV (ckN k a b)) .nilIface).run Try.prog w = .ok (.bool (gdC k a b)) w := by
  cases h : gdC k a b
  · rw [ckN_no h]; kernel_rfl
  · rw [ckN_ok h]; kernel_rfl
theorem eqg_err (n : Nat) (x : Operand) (w : World) : (eqGuard .eql 42 x (.const .nilIface) (errV n) .nilIface).run Try.prog w = .ok () w := by
  unfold errV
  split
  · cases x <;> rfl
  · rfl
theorem beq_b (b : Bool) : (b == b) = true := by cases b <;> rfl
theorem bne_b (b : Bool) : (b != b) = false := by cases b <;> rfl
theorem zero_cg (w : World) : (zeroValue 51).run Try.prog w = .ok (.agg (cgC 0 (.slice none 0 0) (.slice none 0 0))) w := by kernel_rfl
/-- A marked copy stays where a block of another kind turns. -/
theorem Cn.other {W W' : World} {base g : Nat} {v : Value} {l : List Int} {cs : Array Value} {t : TypeId} (h : Cn W base v l) (hB : Blk W g cs t) (ht : t ≠ 3) (hc : Chg g W W') : Cn W' base v l := by
  obtain ⟨g', cap, rfl, h1⟩ := h
  exact ⟨g', cap, rfl, own_chgT h1 hc (blk_own h1 hB ht)⟩
theorem owns_len {W : World} {base n : Nat} {v : Value} {l : List Int} (h : W.ownsRow base 3 1 v n (ints l)) : l.length = n := by have h9 := h.1; rw [ints_len, Nat.mul_one] at h9; exact h9
end Go.Proofs.Ytddpdmolknfjaaa
