/-
  What change's calls answer, and the document's: clone, Same, Check, Do, Read, Swap.
  change.Do, Read, Swap; the document's Do; copies with a mark: estuarylaw10.marked, stands.
  The chapter's examples: estuarylaw10.alive.
  What the laws on changes share: nothing but the block of a slice has turned; marked copies that are written over; errors held against none.
-/
import Derived.Test.YtackgngmdcionaaRows
import Derived.Test.YtackgngmdcionaaPk02
import Derived.Test.YtackgngmdcionaaPk25
import Derived.Deep.CutRange
import Derived.Lib.SmallJoins
import Derived.Test.YtackgngmdcionaaPk21
namespace Go.Proofs.Ytackgngmdcionaa
open Go.RowKit
set_option linter.unusedVariables false

abbrev cgC (k : Int) (vo vn : Value) : Array Value := #[.int .i64 k, vo, vn]
abbrev cgV (k : Int) (vo vn : Value) : Value := .agg (cgC k vo vn)
/-- Three cells of a block, in every world in which nothing of it has turned. -/
theorem cellsG {W : World} {g : Nat} {k : Int} {vo vn : Value} {t : TypeId} (h : Blk W g (cgC k vo vn) t) : (∀ V, Below W.heap.size W V → V.cell? ⟨g, 0, none⟩ = some (.int .i64 k)) ∧ (∀ V, Below W.heap.size W V → V.cell? ⟨g, 1, none⟩ = some vo) ∧ (∀ V, Below W.heap.size W V → V.cell? ⟨g, 2, none⟩ = some vn) :=
  ⟨fun V hb => (h.keep hb).at rfl, fun V hb => (h.keep hb).at rfl, fun V hb => (h.keep hb).at rfl⟩
theorem gne20 (w : World) : (binOp .neq 29 (Err 2) .nilIface).run Try.prog w = .ok (.bool true) w := by kernel_rfl
theorem neq00 (w : World) : (binOp .neq 29 .nilIface .nilIface).run Try.prog w = .ok (.bool false) w := by kernel_rfl
theorem gtake_next {α : Type} {l m : List α} {k : Nat} {x y : α} (h : l.take k = m.take k) (hx : l[k]? = some x) (hy : m[k]? = some y) (e : x = y) : l.take (k + 1) = m.take (k + 1) := by
  rw [List.take_add_one, List.take_add_one, h, hx, hy, e]
theorem ret_err {n m : Nat} (h : n = m) : (Ending.returned (errV m)) = .returned (errV n) := by rw [h]
end Go.Proofs.Ytackgngmdcionaa
namespace Go.Proofs.Ytackgngmdcionaa
open Go.RowKit
set_option linter.unusedVariables false

theorem gio_nil (W : World) (base : Nat) : Io W base (.slice none 0 0) [] := own_nil W base
/-- What Do answers: a value and an error. -/
def DoE (W : World) (base : Nat) (l : List Int) (x : Value) (e : Ending) : Prop := ∃ q n c, e = .returned (.tuple #[.slice q n c, x]) ∧ Io W base (.slice q n c) l ∧ l.length = n
theorem doe_of {W : World} {base : Nat} {v : Value} {l m : List Int} {n k : Nat} (hv : Io W base v l) (hl : m = l) (hn : n = k) : DoE W base m (errV n) (.returned (.tuple #[v, errV k])) := by
  subst hl hn
  obtain ⟨q, c, e⟩ := hv.is.form
  subst e
  exact ⟨q, _, c, rfl, hv, rfl⟩
/-- What the document's Do answers. -/
def DoI (W : World) (l : List Int) (x : Nat) (e : Ending) : Prop := ∃ q n c, e = .returned (.tuple #[.slice q n c, .int .i64 (x : Int)]) ∧ Is W (.slice q n c) l ∧ l.length = n
theorem doi_of {W : World} {v : Value} {l m : List Int} {n k : Nat} {K : Int} (hv : Is W v l) (hl : m = l) (hn : n = k) (hK : K = (k : Int)) : DoI W m n (.returned (.tuple #[v, .int .i64 K])) := by
  subst hl hn hK
  obtain ⟨q, c, e⟩ := hv.form
  subst e
  exact ⟨q, _, c, rfl, hv, rfl⟩
theorem cg_one (k : Int) (q1 : Option Addr) (n1 c1 : Nat) (q2 : Option Addr) (n2 c2 : Nat) : (cgC k (.slice q1 n1 c1) (.slice q2 n2 c2)).all (·.oneCell') = true := by simp [Value.oneCell']
section
variable {ops : Array Oper} {rest : List Oper} {o : Oper} {a : Act} {w : World} {Q : Exit → Act → World → Prop}
end
section
variable {ops : Array Oper} {rest : List Oper} {o : Oper} {a : Act} {w : World} {Q : Exit → Act → World → Prop}
/-- append of numbers, up to what a machine reaches. -/
theorem app_iL (A : World) (hw : Region.wanted o (yielded ops a.tmps) = true) {s x : Operand} (ho : o.op = .call { callee := .builtin .append, args := #[s, x], argTypes := #[22, 22] })
    {v vx : Value} {n k : Nat} {l m : List Int} (hs : a.eval s = v) (hown : w.ownsRow A.heap.size 3 1 v n (ints l)) (hx : a.eval x = vx) (hsl : Is w vx m) (hm : m.length = k) (h63 : (n + k) * 8 ≤ 140737488355328) (hA : Below A.heap.size A w)
    (h : ∀ v' w', w'.ownsRow A.heap.size 3 1 v' (n + k) (ints (l ++ m)) → (v' = .slice none 0 0 ↔ v = .slice none 0 0 ∧ k = 0) → Below A.heap.size A w' → w.grownBy w' v.ownBlock → wpList Try.prog ops Q rest (a.put o.dst v') w') : wpList Try.prog ops Q (o :: rest) a w := by
  unfold wpList
  rw [if_pos hw]
  left
  exact appiW A o.dst rfl ho hs hown hx hsl hm h63 hA h
end
theorem gnum_any (n : Nat) (w : World) : Calls Try.prog 13 #[errV n] w fun e w' => e = .returned (.int .i64 ((n : Nat) : Int)) ∧ w' = w := by
  by_cases h : n = 0
  · subst h
    exact num_nil w
  · rw [errV_no h]
    exact num_err n (by omega) w
end Go.Proofs.Ytackgngmdcionaa
namespace Go.Proofs.Ytackgngmdcionaa
open Go.RowKit
set_option linter.unusedVariables false

theorem geqBB (w : World) : (binOp .eql 29 (Err 11) (Err 11)).run Try.prog w = .ok (.bool true) w := by kernel_rfl
theorem geqN0 (w : World) : (binOp .eql 29 .nilIface .nilIface).run Try.prog w = .ok (.bool true) w := by kernel_rfl
theorem gx_1 : doN ⟨2, [], [5]⟩ [] = 0 ∧ doL ⟨2, [], [5]⟩ [] = [5] := by decide +kernel
theorem gx_2 : doN ⟨2, [], [6]⟩ [5] = 11 ∧ doL ⟨2, [], [6]⟩ [5] = [5] := by decide +kernel
theorem gx_3 : doN ⟨1, [], []⟩ [5] = 0 ∧ doL ⟨1, [], []⟩ [5] = [5] := by decide +kernel
end Go.Proofs.Ytackgngmdcionaa
namespace Go.Proofs.Ytackgngmdcionaa
open Go.RowKit
set_option linter.unusedVariables false

/-- Nothing but the block of a slice has turned. -/
def Onl (v : Value) (V W : World) : Prop := (∀ g, v.ownBlock = some g → Chg g V W) ∧ (v.ownBlock = none → W = V)
theorem Onl.refl (v : Value) (V : World) : Onl v V V := ⟨fun g _ => Chg.refl _ _, fun _ => rfl⟩
theorem Onl.set {v : Value} {V W : World} {g : Nat} (h : Onl v V W) (hg : v.ownBlock = some g) (i : Nat) (x : Value) : Onl v V (W.setCell ⟨g, i, none⟩ x) :=
  ⟨fun g' h' => by rw [hg] at h'; cases h'; exact (h.1 g hg).trans (chg_set _ _ _ _), fun h' => by rw [hg] at h'; cases h'⟩
theorem Onl.blk {v : Value} {V W : World} (h : Onl v V W) {b : Nat} {cs : Array Value} {t : TypeId} (hB : Blk V b cs t) (hn : v.ownBlock ≠ some b) : Blk W b cs t := by
  cases hv : v.ownBlock with
  | none => rw [h.2 hv]; exact hB
  | some g => exact hB.chg (h.1 g hv) (fun e => hn (by rw [hv, e]))
theorem Onl.own {v u : Value} {V W : World} (h : Onl v V W) {base e s n : Nat} {xs : List Value} (hO : V.ownsRow base e s u n xs) (hs : Sep v u) : W.ownsRow base e s u n xs := by
  cases hv : v.ownBlock with
  | none => rw [h.2 hv]; exact hO
  | some g => exact own_at hO (fun k hk => (h.1 g hv).other k (fun e => hs g hv (by rw [hk, e])))
theorem Onl.io {v u : Value} {V W : World} (h : Onl v V W) {base : Nat} {l : List Int} (hO : Io V base u l) (hs : Sep v u) : Io W base u l := h.own hO hs
theorem Onl.cn {v u : Value} {V W : World} (h : Onl v V W) {base : Nat} {l : List Int} (hO : Cn V base u l) (hs : Sep v u) : Cn W base u l := by
  obtain ⟨g, cap, rfl, h1⟩ := hO
  exact ⟨g, cap, rfl, h.io h1 hs⟩
theorem Onl.below {v : Value} {V W : World} (h : Onl v V W) {n : Nat} (hn : ∀ g, v.ownBlock = some g → n ≤ g) : Below n V W := by
  cases hv : v.ownBlock with
  | none => rw [h.2 hv]; exact Below.refl _ _
  | some g => exact (h.1 g hv).below (hn g hv)
theorem Cn.lt {W : World} {base : Nat} {v : Value} {l : List Int} (h : Cn W base v l) : ∀ k, v.ownBlock = some k → base ≤ k ∧ k < W.heap.size := by
  obtain ⟨g, cap, rfl, h1⟩ := h
  intro k hk
  exact h1.lt k hk
/-- A marked copy as a row of the call's own. -/
theorem Cn.row {W : World} {base n : Nat} {v : Value} {l : List Int} (h : Cn W base v l) (hn : l.length = n) : ∃ g cap, v = .slice (some ⟨g, 0, none⟩) n cap ∧ W.ownsRow base 3 1 (.slice (some ⟨g, 0, none⟩) (n + 1) cap) (n + 1) (ints (l ++ [-77])) := by
  subst hn
  obtain ⟨g, cap, rfl, h1⟩ := h
  refine ⟨g, cap, rfl, ?_⟩
  unfold Io at h1
  have e : (l ++ [-77]).length = l.length + 1 := by simp
  rwa [e] at h1
theorem eq_ck (k : Int) (a b : Nat) (w : World) : (binOp .eql 29 (errV (ckN k a b)) .nilIface).run Try.prog w = .ok (.bool (gdC k a b)) w := by
  cases h : gdC k a b
  · rw [ckN_no h]; kernel_rfl
  · rw [ckN_ok h]; kernel_rfl
theorem eqg_err (n : Nat) (x : Operand) (w : World) : (eqGuard .eql 29 x (.const .nilIface) (errV n) .nilIface).run Try.prog w = .ok () w := by
  unfold errV
  split
  · cases x <;> rfl
  · rfl
theorem beq_b (b : Bool) : (b == b) = true := by cases b <;> rfl
theorem bne_b (b : Bool) : (b != b) = false := by cases b <;> rfl
/-- A marked copy stays where a block of another kind turns. -/
theorem Cn.other {W W' : World} {base g : Nat} {v : Value} {l : List Int} {cs : Array Value} {t : TypeId} (h : Cn W base v l) (hB : Blk W g cs t) (ht : t ≠ 3) (hc : Chg g W W') : Cn W' base v l := by
  obtain ⟨g', cap, rfl, h1⟩ := h
  exact ⟨g', cap, rfl, own_chgT h1 hc (blk_own h1 hB ht)⟩
theorem owns_len {W : World} {base n : Nat} {v : Value} {l : List Int} (h : W.ownsRow base 3 1 v n (ints l)) : l.length = n := by have h9 := h.1; rw [ints_len, Nat.mul_one] at h9; exact h9
end Go.Proofs.Ytackgngmdcionaa
