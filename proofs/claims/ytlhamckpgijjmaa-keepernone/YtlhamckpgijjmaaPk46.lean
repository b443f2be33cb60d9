/-
  Keeper: what stays while one is at work.
-/
import Derived.Test.YtlhamckpgijjmaaPk45
namespace Go.Proofs.Ytlhamckpgijjmaa
open Go.RowKit
set_option linter.unusedVariables false
set_option maxRecDepth 100000

theorem Kp.keep {W W' : World} {base b : Nat} {v : Value} {d kb : Nat} {S : TS} {nr nb : Nat} {node : Int} {os : List KD} (h : Kp W base b v d kb S nr nb node os) (hb : Below W.heap.size W W') : Kp W' base b v d kb S nr nb node os :=
  ⟨h.tp.keep hb, h.dy.keep hb, h.kp.keep hb, h.len, fun r hr => (h.im r hr).keep hb, h.gd, h.gk⟩
/-- Numbers that stay while keepers are at work: of one's own, or older than all that is. -/
def Ik (W : World) (base : Nat) (v : Value) (l : List Int) : Prop := Io W base v l ∨ ∃ W0 : World, W0.heap.size ≤ base ∧ Below W0.heap.size W0 W ∧ Is W0 v l
theorem Ik.is {W : World} {base : Nat} {v : Value} {l : List Int} (h : Ik W base v l) : Is W v l := by
  rcases h with h | ⟨W0, h1, h2, h3⟩
  · exact h.is
  · exact h3.keep h2
theorem Ik.keep {W W' : World} {base : Nat} {v : Value} {l : List Int} (h : Ik W base v l) (hb : Below W.heap.size W W') : Ik W' base v l := by
  rcases h with h | ⟨W0, h1, h2, h3⟩
  · exact .inl (h.keep hb)
  · exact .inr ⟨W0, h1, ab_trans h2 hb, h3⟩
theorem Kp.ages {W : World} {base b : Nat} {v : Value} {d kb : Nat} {S : TS} {nr nb : Nat} {node : Int} {os : List KD} (h : Kp W base b v d kb S nr nb node os) : base ≤ b ∧ base ≤ d ∧ base ≤ kb ∧ b < W.heap.size ∧ d < W.heap.size ∧ kb < W.heap.size ∧ ∀ k, v.ownBlock = some k → base ≤ k ∧ k < W.heap.size :=
  ⟨h.tp.ge, h.gd, h.gk, h.tp.blk.lt, h.dy.lt, h.kp.lt, fun k hk => h.tp.own.lt k hk⟩
theorem Km.below' {W W' : World} {base b : Nat} {v v' : Value} {d kb : Nat} {S : TS} {nr nb : Nat} {node : Int} {os : List KD} (m : Km b d kb W W' v v') (h : Kp W base b v d kb S nr nb node os) : Below base W W' := by
  obtain ⟨h1, h2, h3, h4, -, -, h7⟩ := h.ages
  exact ⟨m.os, m.tape, m.output, m.size, fun i hi => m.other i (by omega) (by omega) (by omega) (by omega) (fun e => by have := (h7 i e).1; omega)⟩
/-- What is younger than a keeper, and what is of other kinds, stays. -/
theorem Blk.km {W W' : World} {base b g : Nat} {v v' : Value} {d kb : Nat} {S : TS} {nr nb : Nat} {node : Int} {os : List KD} {xs : Array Value} {t : TypeId} (h : Blk W g xs t) (m : Km b d kb W W' v v') (hK : Kp W base b v d kb S nr nb node os) (h1 : t ≠ 63) (h2 : t ≠ 103) (h3 : t ≠ 70) (h4 : t ≠ 5) : Blk W' g xs t := by
  unfold Blk at *
  rw [m.other g (Blk.lt h) (blk_ne h hK.tp.blk h1) (blk_ne h hK.dy h2) (blk_ne h hK.kp h3) (blk_own hK.tp.own h h4)]
  exact h
theorem Ik.km {W W' : World} {base b : Nat} {v v' x : Value} {l : List Int} {d kb : Nat} {S : TS} {nr nb : Nat} {node : Int} {os : List KD} (h : Ik W base x l) (m : Km b d kb W W' v v') (hK : Kp W base b v d kb S nr nb node os) : Ik W' base x l := by
  rcases h with h | ⟨W0, h1, h2, h3⟩
  · refine .inl (own_at h fun g hg => m.other g (h.lt g hg).2 (fun e => ?_) (fun e => ?_) (fun e => ?_) (fun e => ?_))
    · exact blk_own h hK.tp.blk (by decide) (by rw [← e]; exact hg)
    · exact blk_own h hK.dy (by decide) (by rw [← e]; exact hg)
    · exact blk_own h hK.kp (by decide) (by rw [← e]; exact hg)
    · exact sep_ty h hK.tp.own (by decide) g hg e
  · exact .inr ⟨W0, h1, h2.trans ((m.below' hK).mono h1), h3⟩
theorem rowB_byt (k : Int) (r : Rg) : Byt (rowB k r) := by
  unfold rowB
  rw [List.nil_append]
  intro x hx
  rcases List.mem_append.1 hx with h | h
  · exact numsB_byt [k] x h
  · exact numsB_byt _ x h
theorem rowB_len (k : Int) (r : Rg) (h : r.l.length ≤ 1000) : (rowB k r).length ≤ 16376 := by
  unfold rowB
  have h1 := numsB_len [k]
  have h2 := numsB_len (nmR r)
  have h3 : (nmR r).length = 6 + r.l.length := by unfold nmR nmB; simp only [List.length_append, List.length_cons, List.length_nil]
  simp only [List.nil_append, List.length_append, List.length_cons, List.length_nil] at *
  omega
end Go.Proofs.Ytlhamckpgijjmaa
