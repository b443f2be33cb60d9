/-
  package post in memory: a post's cells, and its messages as a slice of texts of its own; its small functions.
-/
import Derived.Test.YteililgfjnoabaaTxt
import Derived.Test.YteililgfjnoabaaMvs
import Derived.Test.YteililgfjnoabaaRegL
import Derived.Test.YteililgfjnoabaaSzL
import Derived.Lib.SliceRun
namespace Go.Proofs.Yteililgfjnoabaa
open Go.RowKit
set_option linter.unusedVariables false
set_option maxRecDepth 100000

/-- A count that goes round. -/
def inc (x : Int) : Int := wrap64 (x + 1)
theorem inc_i64 (x : Int) : I64 (inc x) := by unfold inc wrap64; omega
/-- What a post holds: its messages; how many were lost, taken up. -/
structure PS where
  l : List (List Nat)
  lost : Int
  taken : Int
def pcs (v : Value) (S : PS) : Array Value := #[.int .i64 S.lost, .int .i64 S.taken, v]
abbrev pptr (b : Nat) : Value := .pointer (some ⟨b, 0, none⟩)
/-- A post at block b, its messages in v. -/
structure Pt (W : World) (base b : Nat) (v : Value) (S : PS) : Prop where
  ge : base ≤ b
  blk : Blk W b (pcs v S) 54
  own : W.ownsRow base 9 1 v S.l.length (txv S.l)
  max : S.l.length ≤ 4096
  bl : I64 S.lost
  bt : I64 S.taken
  byt : ∀ l ∈ S.l, Byt l ∧ l.length ≤ 9223372036854775807
theorem Pt.lt {W : World} {base b : Nat} {v : Value} {S : PS} (h : Pt W base b v S) : base < W.heap.size := Nat.lt_of_le_of_lt h.ge h.blk.lt
theorem Pt.below {W W' : World} {base b : Nat} {v v' : Value} {S : PS} (h : Pt W base b v S) (m : Mv b W W' v v') : Below base W W' :=
  ⟨m.os, m.tape, m.output, m.size, fun k hk => m.other k (Nat.lt_trans hk h.lt) (by have := h.ge; omega) (fun e => by have := (h.own.lt k e).1; omega)⟩
theorem Pt.apart {W : World} {base b : Nat} {v : Value} {S : PS} (h : Pt W base b v S) : v.ownBlock ≠ some b := blk_own h.own h.blk (by decide)
theorem Pt.keep {W W' : World} {base b : Nat} {v : Value} {S : PS} (h : Pt W base b v S) (hb : Below W.heap.size W W') : Pt W' base b v S :=
  ⟨h.ge, h.blk.keep hb, own_keep h.own hb, h.max, h.bl, h.bt, h.byt⟩
theorem Pt.less {W : World} {base base' b : Nat} {v : Value} {S : PS} (h : Pt W base b v S) (hb : base' ≤ base) : Pt W base' b v S :=
  ⟨Nat.le_trans hb h.ge, h.blk, own_less h.own hb, h.max, h.bl, h.bt, h.byt⟩
theorem Pt.txs {W : World} {base b : Nat} {v : Value} {S : PS} (h : Pt W base b v S) : Txs W v S.l := (txo_of h.own).txs
/-- Counts of it have turned: its messages are the same. -/
theorem Pt.chg {W W' : World} {base b : Nat} {v : Value} {S S' : PS} (h : Pt W base b v S) (hB : Blk W' b (pcs v S') 54) (hc : Chg b W W') (hl : S'.l = S.l) (h1 : I64 S'.lost) (h2 : I64 S'.taken) : Pt W' base b v S' :=
  ⟨h.ge, hB, by rw [hl]; exact own_chgT h.own hc h.apart, by rw [hl]; exact h.max, h1, h2, by rw [hl]; exact h.byt⟩
/-- The three cells of a post. -/
structure Tri (W : World) (b : Nat) (v : Value) (S : PS) : Prop where
  c0 : W.cell? ⟨b, 0, none⟩ = some (.int .i64 S.lost)
  c1 : W.cell? ⟨b, 1, none⟩ = some (.int .i64 S.taken)
  c2 : W.cell? ⟨b, 2, none⟩ = some v
theorem Pt.tri {W : World} {base b : Nat} {v : Value} {S : PS} (h : Pt W base b v S) : Tri W b v S := ⟨h.blk.at rfl, h.blk.at rfl, h.blk.at rfl⟩
theorem Pt.frozen {W : World} {base b : Nat} {v : Value} {S : PS} (h : Pt W base b v S) (i : Nat) : W.frozen? ⟨b, i, none⟩ = false := h.blk.frozen i
theorem Pt.form {W : World} {base b : Nat} {v : Value} {S : PS} (h : Pt W base b v S) : ∃ q cap, v = .slice q S.l.length cap ∧ S.l.length ≤ cap ∧ cap ≤ 9223372036854775807 := by
  obtain ⟨q, cap, g, off, e, h1, h2, _⟩ := h.txs
  exact ⟨q, cap, e, h1, h2⟩
/-- A new post. -/
abbrev ps0 : PS := ⟨[], 0, 0⟩
theorem pnew_any (w : World) : Calls Try.prog 11 #[] w fun e w' => e = .returned (pptr w.heap.size) ∧ Pt w' w.heap.size w.heap.size (.slice none 0 0) ps0 ∧ Below w.heap.size w w' := by
  go_enter Try.func11, Try.ntmps11
  go_wp2_with fail
  go_ret
  exact ⟨rfl, ⟨Nat.le_refl _, Blk.new _ _ _, World.ownsRow_nil _ _ _ _, by simp, by decide, by decide, by simp⟩, (Below.refl _ _).alloc (Nat.le_refl _) _⟩
theorem plen_any (b : Nat) (q : Option Addr) (n cap : Nat) (w : World) (c2 : w.cell? ⟨b, 2, none⟩ = some (.slice q n cap)) :
    Calls Try.prog 21 #[pptr b] w fun e w' => e = .returned (.int .i64 ((n : Nat) : Int)) ∧ w' = w := by
  go_enter Try.func21, Try.ntmps21
  go_wp2_with fail
  go_ret
  exact ⟨rfl, rfl⟩
theorem plost_any (b : Nat) (n : Int) (w : World) (c0 : w.cell? ⟨b, 0, none⟩ = some (.int .i64 n)) :
    Calls Try.prog 22 #[pptr b] w fun e w' => e = .returned (.int .i64 n) ∧ w' = w := by
  go_enter Try.func22, Try.ntmps22
  go_wp2_with fail
  go_ret
  exact ⟨rfl, rfl⟩
theorem ptaken_any (b : Nat) (n : Int) (w : World) (c1 : w.cell? ⟨b, 1, none⟩ = some (.int .i64 n)) :
    Calls Try.prog 23 #[pptr b] w fun e w' => e = .returned (.int .i64 n) ∧ w' = w := by
  go_enter Try.func23, Try.ntmps23
  go_wp2_with fail
  go_ret
  exact ⟨rfl, rfl⟩
theorem plen_nil (w : World) : Calls Try.prog 21 #[.pointer none] w fun e w' => e = .returned (.int .i64 0) ∧ w' = w := by
  go_enter Try.func21, Try.ntmps21
  go_wp2_with fail
  go_ret
  exact ⟨rfl, rfl⟩
theorem plost_nil (w : World) : Calls Try.prog 22 #[.pointer none] w fun e w' => e = .returned (.int .i64 0) ∧ w' = w := by
  go_enter Try.func22, Try.ntmps22
  go_wp2_with fail
  go_ret
  exact ⟨rfl, rfl⟩
theorem ptaken_nil (w : World) : Calls Try.prog 23 #[.pointer none] w fun e w' => e = .returned (.int .i64 0) ∧ w' = w := by
  go_enter Try.func23, Try.ntmps23
  go_wp2_with fail
  go_ret
  exact ⟨rfl, rfl⟩
theorem plose_any (b : Nat) (n : Int) (w : World) (c0 : w.cell? ⟨b, 0, none⟩ = some (.int .i64 n)) (f0 : w.frozen? ⟨b, 0, none⟩ = false) :
    Calls Try.prog 28 #[pptr b] w fun e w' => e = .returned (.tuple #[]) ∧ w' = w.setCell ⟨b, 0, none⟩ (.int .i64 (inc n)) := by
  go_enter Try.func28, Try.ntmps28
  go_wp2_with fail
  go_end0
  exact ⟨rfl, rfl⟩
theorem ptake_any (b : Nat) (n : Int) (w : World) (c1 : w.cell? ⟨b, 1, none⟩ = some (.int .i64 n)) (f1 : w.frozen? ⟨b, 1, none⟩ = false) :
    Calls Try.prog 27 #[pptr b] w fun e w' => e = .returned (.tuple #[]) ∧ w' = w.setCell ⟨b, 1, none⟩ (.int .i64 (inc n)) := by
  go_enter Try.func27, Try.ntmps27
  go_wp2_with fail
  go_end0
  exact ⟨rfl, rfl⟩
theorem phas_yes (b i : Nat) (q : Option Addr) (n cap : Nat) (w : World) (c2 : w.cell? ⟨b, 2, none⟩ = some (.slice q n cap)) (hi : i < n) :
    Calls Try.prog 25 #[pptr b, .int .i64 ((i : Nat) : Int)] w fun e w' => e = .returned (.bool true) ∧ w' = w := by
  have hii : (i : Int) < (n : Int) := by omega
  go_enter Try.func25, Try.ntmps25
  go_wp2_with (go_at_call 21; refine (plen_any b _ _ _ _ c2).mono ?_; rintro e W1 ⟨rfl, rfl⟩)
  go_ret
  exact ⟨rfl, rfl⟩
theorem phas_no (b : Nat) (i : Int) (q : Option Addr) (n cap : Nat) (w : World) (c2 : w.cell? ⟨b, 2, none⟩ = some (.slice q n cap)) (hi : ¬ (0 ≤ i ∧ i < (n : Int))) :
    Calls Try.prog 25 #[pptr b, .int .i64 i] w fun e w' => e = .returned (.bool false) ∧ w' = w := by
  by_cases h0 : 0 ≤ i
  · have h1 : ¬ i < (n : Int) := fun h => hi ⟨h0, h⟩
    clear hi
    go_enter Try.func25, Try.ntmps25
    go_wp2_with (go_at_call 21; refine (plen_any b _ _ _ _ c2).mono ?_; rintro e W1 ⟨rfl, rfl⟩)
    go_ret
    exact ⟨by show Ending.returned (.bool (decide _)) = _; rw [decide_eq_false (by omega)], rfl⟩
  · clear hi
    go_enter Try.func25, Try.ntmps25
    go_wp2_with fail
    go_ret
    exact ⟨rfl, rfl⟩
theorem phas_nil (i : Int) (w : World) :
    Calls Try.prog 25 #[.pointer none, .int .i64 i] w fun e w' => e = .returned (.bool false) ∧ w' = w := by
  by_cases h0 : 0 ≤ i
  · have h1 : ¬ i < 0 := by omega
    go_enter Try.func25, Try.ntmps25
    go_wp2_with (go_at_call 21; refine (plen_nil _).mono ?_; rintro e W1 ⟨rfl, rfl⟩)
    go_ret
    exact ⟨by show Ending.returned (.bool (decide _)) = _; rw [decide_eq_false (by omega)], rfl⟩
  · go_enter Try.func25, Try.ntmps25
    go_wp2_with fail
    go_ret
    exact ⟨rfl, rfl⟩
theorem padmits_yes (b : Nat) (q : Option Addr) (n cap : Nat) (w : World) (c2 : w.cell? ⟨b, 2, none⟩ = some (.slice q n cap)) (hn : n < 4096) :
    Calls Try.prog 24 #[pptr b] w fun e w' => e = .returned (.bool true) ∧ w' = w := by
  have hni : (n : Int) < 4096 := by omega
  go_enter Try.func24, Try.ntmps24
  go_wp2_with fail
  go_ret
  exact ⟨rfl, rfl⟩
theorem padmits_no (b : Nat) (q : Option Addr) (n cap : Nat) (k : Int) (w : World) (c0 : w.cell? ⟨b, 0, none⟩ = some (.int .i64 k)) (f0 : w.frozen? ⟨b, 0, none⟩ = false) (c2 : w.cell? ⟨b, 2, none⟩ = some (.slice q n cap)) (hn : ¬ n < 4096) :
    Calls Try.prog 24 #[pptr b] w fun e w' => e = .returned (.bool false) ∧ w' = w.setCell ⟨b, 0, none⟩ (.int .i64 (inc k)) := by
  have hni : ¬ (n : Int) < 4096 := by omega
  go_enter Try.func24, Try.ntmps24
  go_wp2_with (go_at_call 28; refine (plose_any b _ _ c0 f0).mono ?_; rintro e W1 ⟨rfl, rfl⟩)
  go_ret
  exact ⟨rfl, rfl⟩
end Go.Proofs.Yteililgfjnoabaa
