/-
  estuarynum.Over.
  estuarynum.Over; both tapes side by side; Mw: nothing but the tape's memory and block r has turned.
  estuarylaw06.play: one call by both tapes.
-/
import Derived.Test.YtlhamckpgijjmaaPk06
import Derived.Test.YtlhamckpgijjmaaPk33
import Derived.Test.YtlhamckpgijjmaaPk34
import Derived.Deep.CutRange
import Derived.Deep.CutBlock
namespace Go.Proofs.Ytlhamckpgijjmaa
open Go.RowKit
set_option linter.unusedVariables false

def u8s (zs : List Int) : List Value := zs.map fun z => Value.int .u8 z
theorem u8s_set (l : List Int) (j : Nat) (x : Int) : (u8s l).set j (.int .u8 x) = u8s (l.set j x) := by simp [u8s, List.map_set]
theorem bys_u8s (l : List Nat) : bys l = u8s (l.map fun x => ((x : Nat) : Int)) := by simp [bys, u8s]
end Go.Proofs.Ytlhamckpgijjmaa
namespace Go.Proofs.Ytlhamckpgijjmaa
open Go.RowKit
set_option linter.unusedVariables false

/-- Nothing but the tape's own memory and block r has turned. -/
structure Mw (b r : Nat) (w w' : World) (v v' : Value) : Prop where
  os : w'.os = w.os
  tape : w'.tape = w.tape
  output : w'.output = w.output
  size : w.heap.size ≤ w'.heap.size
  other : ∀ k, k < w.heap.size → k ≠ b → k ≠ r → v.ownBlock ≠ some k → w'.heap[k]? = w.heap[k]?
  next : ∀ x, v'.ownBlock = some x → v.ownBlock = some x ∨ w.heap.size ≤ x
theorem Mv.mw {b : Nat} {w w' : World} {v v' : Value} (h : Mv b w w' v v') (r : Nat) : Mw b r w w' v v' := ⟨h.os, h.tape, h.output, h.size, fun k hk hb _ hv => h.other k hk hb hv, h.next⟩
theorem Chg.mw {r : Nat} {w w' : World} (h : Chg r w w') (b : Nat) (v : Value) : Mw b r w w' v v := ⟨h.os, h.tape, h.output, Nat.le_of_eq h.size.symm, fun k _ _ hr _ => h.other k hr, fun _ h => .inl h⟩
theorem Mw.trans {b r : Nat} {w w' w'' : World} {v v' v'' : Value} (h : Mw b r w w' v v') (k : Mw b r w' w'' v' v'') : Mw b r w w'' v v'' :=
  ⟨k.os.trans h.os, k.tape.trans h.tape, k.output.trans h.output, Nat.le_trans h.size k.size,
   fun i hi hb hr hv => (k.other i (Nat.lt_of_lt_of_le hi h.size) hb hr (fun e => by
     rcases h.next i e with e | e
     · exact hv e
     · omega)).trans (h.other i hi hb hr hv),
   fun x hx => by
     rcases k.next x hx with e | e
     · exact h.next x e
     · exact .inr (Nat.le_trans h.size e)⟩
theorem Mw.below {A w w' : World} {b r : Nat} {v v' : Value} {S : TS} (h : Mw b r w w' v v') (hT : Tp w A.heap.size b v S) (hr : A.heap.size ≤ r) : Below A.heap.size w w' :=
  ⟨h.os, h.tape, h.output, h.size, fun k hk => h.other k (Nat.lt_trans hk hT.lt) (by have := hT.ge; omega) (by omega) (fun e => by have := (hT.own.lt k e).1; omega)⟩
theorem Tp.chgO {W W' : World} {base b r : Nat} {v : Value} {S : TS} (h : Tp W base b v S) (hc : Chg r W W') (hb : b ≠ r) (ho : v.ownBlock ≠ some r) : Tp W' base b v S :=
  ⟨h.ge, h.blk.chg hc hb, own_chgT h.own hc ho, h.sure, h.max, h.bo, h.br⟩
end Go.Proofs.Ytlhamckpgijjmaa
namespace Go.Proofs.Ytlhamckpgijjmaa
open Go.RowKit
set_option linter.unusedVariables false

theorem steps_st (S : TS) : (stS S).steps ≤ S.steps + 1 := by
  unfold stS
  split
  · omega
  · split
    · show S.steps ≤ _; omega
    · show S.steps + 1 ≤ _; omega
theorem steps_ap (S : TS) (m : List Nat) : (apS S m).steps ≤ S.steps + 1 := by
  have := steps_st S
  unfold apS
  split
  · split <;> exact this
  · omega
theorem steps_rp (S : TS) (m : List Nat) : (rpS S m).steps ≤ S.steps + 1 := by
  have := steps_st S
  unfold rpS
  split
  · split <;> exact this
  · omega
theorem steps_sy (S : TS) : (syS S).steps ≤ S.steps + 1 := by
  have := steps_st S
  unfold syS
  split <;> exact this
theorem steps_ct (S : TS) : (ctS S).steps ≤ S.steps + 1 := by
  unfold ctS
  split
  · omega
  · show S.steps ≤ _; omega
end Go.Proofs.Ytlhamckpgijjmaa
