/-
  estuarynum.Over; both tapes side by side; Mw: nothing but the tape's memory and block r has turned.
-/
import Derived.Test.YtalbiggmmmkclaaTpT
import Derived.Test.YtalbiggmmmkclaaFrZ
namespace Go.Proofs.Ytalbiggmmmkclaa
open Go.RowKit
set_option linter.unusedVariables false

def u8s (zs : List Int) : List Value := zs.map fun z => Value.int .u8 z
theorem u8s_set (l : List Int) (j : Nat) (x : Int) : (u8s l).set j (.int .u8 x) = u8s (l.set j x) := by simp [u8s, List.map_set]
theorem bys_u8s (l : List Nat) : bys l = u8s (l.map fun x => ((x : Nat) : Int)) := by simp [bys, u8s]
set_option maxHeartbeats 1000000 in
theorem over_any (base : Nat) (v : Value) (l : List Nat) (w : World) (h : Ow w base v l) :
    Calls Try.prog 22 #[v] w fun e w' => e = .returned (.tuple #[]) ∧ (∀ g, v.ownBlock = some g → Chg g w w') ∧ (v.ownBlock = none → w' = w) := by
  by_cases hv : v = .slice none 0 0
  · subst hv
    go_enter Try.func22, Try.ntmps22
    go_wp2_with fail
    go_loopw [5] (fun x wr => x = .int .i64 0 ∧ wr = w) (fun _ _ => 0)
    case atStart => exact ⟨rfl, rfl⟩
    case round =>
      obtain ⟨rfl, rfl⟩ := hrel
      go_wp2_with fail
      go_end0
      exact ⟨rfl, (fun g hg => by cases hg), fun _ => rfl⟩
  · obtain ⟨g, cap, e, hb, hg, hc, hm, hcell⟩ := own_cells h hv
    unfold Ow at h
    unfold maxLen at hm
    generalize hn : l.length = n at *
    subst e
    rw [bys_u8s] at h
    have hz : (l.map fun x => ((x : Nat) : Int)).length = n := by simpa using hn
    generalize (l.map fun x => ((x : Nat) : Int)) = zs at *
    clear hcell hv
    go_enter Try.func22, Try.ntmps22
    go_wp2_with fail
    go_loopw [5] (fun x wr => ∃ (i : Nat) (ys : List Int), i ≤ n ∧ x = .int .i64 (i : Int) ∧ ys.length = n ∧ wr.ownsRow base 5 1 (.slice (some ⟨g, 0, none⟩) n cap) n (u8s ys) ∧ Chg g w wr) (fun x _ => n - (intOf x).toNat)
    case atStart => exact ⟨0, zs, by omega, rfl, hz, h, Chg.refl _ _⟩
    case round =>
      clear h hz
      obtain ⟨i, ys, hi, rfl, hy, h, hk⟩ := hrel
      by_cases hin : i = n
      · subst hin
        go_wp2_with fail
        go_end0
        exact ⟨rfl, (fun g' hg' => by cases hg'; exact hk), (fun h0 => by cases h0)⟩
      · have hii : (i : Int) < (n : Int) := by omega
        have hin' : i < n := by omega
        have d := h.cellAt i (by omega)
        have fz := h.frozenAt i
        obtain ⟨z, hzz⟩ : ∃ z, ys[i]? = some z := ⟨ys[i], List.getElem?_eq_getElem (by omega)⟩
        have hu : (u8s ys)[i]? = some (.int .u8 z) := by simp [u8s, hzz]
        rw [hu] at d
        go_wp2_with fail
        have hst := (h.stored i (.int .u8 (bits .xor .u8 z 255))).1
        rw [u8s_set] at hst
        exact ⟨⟨i + 1, _, by omega, rfl, by rw [List.length_set]; exact hy, hst, hk.trans (chg_set _ _ _ _)⟩, by simp only [intOf]; omega⟩
/-- Nothing but the tape's own memory and block r has turned. -/
structure Mw (b r : Nat) (w w' : World) (v v' : Value) : Prop where
  os : w'.os = w.os
  tape : w'.tape = w.tape
  output : w'.output = w.output
  size : w.heap.size ≤ w'.heap.size
  other : ∀ k, k < w.heap.size → k ≠ b → k ≠ r → v.ownBlock ≠ some k → w'.heap[k]? = w.heap[k]?
  next : ∀ x, v'.ownBlock = some x → v.ownBlock = some x ∨ w.heap.size ≤ x
theorem Mv.mw {b : Nat} {w w' : World} {v v' : Value} (h : Mv b w w' v v') (r : Nat) : Mw b r w w' v v' := ⟨h.os, h.tape, h.output, h.size, fun k hk hb _ hv => h.other k hk hb hv, h.next⟩
theorem Chg.mw {r : Nat} {w w' : World} (h : Chg r w w') (b : Nat) (v : Value) : Mw b r w w' v v := ⟨h.os, h.tape, h.output, Nat.le_of_eq h.size.symm, fun k _ _ hr _ => h.other k hr, fun _ h => .inl h⟩
theorem Mw.trans {b r : Nat} {w w' w'' : World} {v v' v'' : Value} (h : Mw b r w w' v v') (k : Mw b r w' w'' v' v'') : Mw b r w w'' v v'' :=
  ⟨k.os.trans h.os, k.tape.trans h.tape, k.output.trans h.output, Nat.le_trans h.size k.size,
   fun i hi hb hr hv => (k.other i (Nat.lt_of_lt_of_le hi h.size) hb hr (fun e => by
     rcases h.next i e with e | e
     · exact hv e
     · omega)).trans (h.other i hi hb hr hv),
   fun x hx => by
     rcases k.next x hx with e | e
     · exact h.next x e
     · exact .inr (Nat.le_trans h.size e)⟩
theorem Mw.below {A w w' : World} {b r : Nat} {v v' : Value} {S : TS} (h : Mw b r w w' v v') (hT : Tp w A.heap.size b v S) (hr : A.heap.size ≤ r) : Below A.heap.size w w' :=
  ⟨h.os, h.tape, h.output, h.size, fun k hk => h.other k (Nat.lt_trans hk hT.lt) (by have := hT.ge; omega) (by omega) (fun e => by have := (hT.own.lt k e).1; omega)⟩
theorem blk_ne {W : World} {b r : Nat} {x y : Array Value} {t u : TypeId} (h : Blk W b x t) (k : Blk W r y u) (hn : t ≠ u) : b ≠ r := by
  intro e
  subst e
  unfold Blk at h k
  rw [h] at k
  cases k
  exact hn rfl
theorem tp_two {w : World} {base b r : Nat} {v : Value} {S S' : TS} (hT : Tp w base b v S) (hR : Rf w r S') : r ≠ b ∧ v.ownBlock ≠ some r := by
  obtain ⟨ar, lf, un, hB, -⟩ := hR
  exact ⟨blk_ne hB hT.blk (by decide), blk_own hT.own hB (by decide)⟩
theorem Tp.chgO {W W' : World} {base b r : Nat} {v : Value} {S : TS} (h : Tp W base b v S) (hc : Chg r W W') (hb : b ≠ r) (ho : v.ownBlock ≠ some r) : Tp W' base b v S :=
  ⟨h.ge, h.blk.chg hc hb, own_chgT h.own hc ho, h.sure, h.max, h.bo, h.br⟩
theorem Rf.mv {W W' : World} {base b r : Nat} {v v' : Value} {S S' : TS} (h : Rf W r S) (hT : Tp W base b v S') (m : Mv b W W' v v') : Rf W' r S := by
  obtain ⟨h1, h2⟩ := tp_two hT h
  exact h.at (m.other r h.lt h1 h2)
theorem Rf.chgO {W W' : World} {r g : Nat} {S : TS} (h : Rf W r S) (hc : Chg g W W') (hn : r ≠ g) : Rf W' r S := h.at (hc.other r hn)
end Go.Proofs.Ytalbiggmmmkclaa
