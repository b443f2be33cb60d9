/-
  basin's Feed, whatever it is handed: what it leaves.
-/
import Derived.Test.YtoeilckeebojmaaPk44
import Derived.Test.YtoeilckeebojmaaPk51
namespace Go.Proofs.Ytoeilckeebojmaa
open Go.RowKit
set_option linter.unusedVariables false
set_option maxRecDepth 100000

/-- A slice that came in stays, whatever a basin's calls turn. -/
theorem stay_in {α : Type} {E : En α} {K : Bkk} {A W : World} {v : Value} {l : List α} (h : ER E A v l) (hX : ∀ k, bkB K k → A.heap.size ≤ k) (hb : Below A.heap.size A W) : Stay E K W v l := by
  by_cases h0 : 0 < l.length
  · exact stay_out (h.keep hb) (ER.outB16 h h0 hX)
  · intro V hV
    obtain ⟨q, cap, g, off, h1, h2, h3, h4, h5⟩ := h
    have hl : l = [] := List.length_eq_zero_iff.1 (by omega)
    subst hl
    exact ⟨q, cap, g, off, h1, h2, h3, fun h => absurd h h0, fun j u hu => by simp [En.fl] at hu⟩
theorem feL_J {x : SeD} (h : SeF x) (nx : Int) : J64 (feL x nx) := by
  unfold feL
  split
  · unfold J64 wrap64; omega
  · exact h.la
structure FdU (T T' : Bsn) (n fr la : Int) (ops : List Op5) (r : Nat) : Prop where
  res : T'.res = T.res
  sh : T'.sh = T.sh
  mo : T'.mo = T.mo
  fl : T'.fl.length = T.fl.length
  np : npB T'
  cs : r = 0 ∨ r = 7 ∨ r = 2 ∨ r = 11
  all : (r = 0 ∨ r = 7) → ∀ p ∈ ops, p.k ≠ 2 → (r = 0 ∨ p.s < nxN T' n) → ∀ k ∈ idL p.t p.y T.sh T.res, decide (k ∈ T'.ks) = !pasB T'.ba k
  nx : r = 7 → fr ≤ nxN T' n ∧ nxN T' n ≤ la
def FdE (B : Nat) (K : Bkk) (T : Bsn) (n fr la : Int) (ops : List Op5) (e : Ending) (w w' : World) : Prop := ∃ r T', e = .returned (errV r) ∧ Bq w' B K T' ∧ Frm (bkB K) w w' ∧ FdU T T' n fr la ops r
theorem bafeed_u {B : Nat} {K : Bkk} {T : Bsn} (src fr la : Int) (vc vo : Value) (cut : List (Int × Int)) (ops : List Op5) (w : World) (h : Bq w B K T) (hn : npB T) (hc : Stay E2 K w vc cut) (hO : Stay E5 K w vo ops)
    (hcj : ∀ p ∈ cut, J64 p.1 ∧ J64 p.2) (hoj : ∀ o ∈ ops, Fit5 o) (hla : J64 la) :
    Calls Try.prog 11 #[bptr K, .int .i64 src, .int .i64 fr, .int .i64 la, vc, vo] w fun e w' => FdE B K T src fr la ops e w w' := by
  by_cases hf : fdF T src fr la cut ops
  · obtain ⟨i, rfl, hi⟩ := hasN_no (n := src) (m := T.fl.length) (decide_eq_true hf.1)
    obtain ⟨f, hfi⟩ : ∃ f, T.fl[i]? = some f := ⟨T.fl[i], List.getElem?_eq_getElem hi⟩
    by_cases hx : fr = f.nx
    · refine (bafeed_ok i fr la vc vo cut ops w h hc hO hf hfi hx hcj hoj hla).mono ?_
      rintro e w' ⟨rfl, hB, hF⟩
      have hk := fd_kept (cut := cut) (S := T) (la := la) hf.2.2.2 hi
      have hnx : nxN (fdZ T i la cut ops) (i : Int) = nxOf (fdZ T i la cut ops) i := by
        unfold nxN
        rw [if_pos (show hasN (i : Int) (fdZ T i la cut ops).fl.length = true from decide_eq_true (by rw [hk.fl]; omega)), Int.toNat_natCast]
      refine ⟨_, _, rfl, hB, hF, hk.res, hk.sh, hk.mo, hk.fl, hk.np, ?_, fun _ p hp hk2 hs k hkm => ?_, fun h7 => ?_⟩
      · unfold tkE
        cases (fdR T i cut ops).2 with
        | none => exact .inl rfl
        | some s => exact .inr (.inl rfl)
      · refine hk.all p hp hk2 (fun s hs2 => ?_) k (by rw [hk.sh, hk.res]; exact hkm)
        rcases hs with h0 | h1
        · unfold tkE at h0
          rw [hs2] at h0
          cases h0
        · rw [hnx, (hk.nx s hs2).1] at h1
          exact h1
      · unfold tkE at h7
        cases hr : (fdR T i cut ops).2 with
        | none => rw [hr] at h7; cases h7
        | some s =>
          obtain ⟨e1, e2, e3⟩ := hk.nx s hr
          rw [hnx, e1]
          exact ⟨e2, e3⟩
    · refine (bafeed_stale i fr la vc vo cut ops w h hc.er hO.er hf hfi hx).mono ?_
      rintro e w' ⟨rfl, hb⟩
      exact ⟨11, T, by rw [errV_no (by omega)]; rfl, h.keep hb, frm_below hb, rfl, rfl, rfl, rfl, hn, by omega, fun h => by omega, fun h => by omega⟩
  · refine (bafeed_form src fr la vc vo cut ops w h hc.er hO.er hf).mono ?_
    rintro e w' ⟨rfl, hb⟩
    exact ⟨2, T, by rw [errV_no (by omega)]; rfl, h.keep hb, frm_below hb, rfl, rfl, rfl, rfl, hn, by omega, fun h => by omega, fun h => by omega⟩
end Go.Proofs.Ytoeilckeebojmaa
