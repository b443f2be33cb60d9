/-
  Plain mathematics of what is closed: one mark of each source.
-/
import Derived.Test.YtikopgdalnolaaaPk42
import Derived.Test.YtikopgdalnolaaaPk44
namespace Go.Proofs.Ytikopgdalnolaaa
open Go.RowKit
set_option linter.unusedVariables false
set_option maxRecDepth 100000

def mkF (m : Int) : Flw := ⟨2, m, true⟩
/-- A basin of n sources, the first k of which have sent their mark. -/
def clS (ms : List Int) (r : Int) (k : Nat) : Bsn := ⟨[r], 1, 10, (ms.take k).map mkF ++ List.replicate (ms.length - k) newFl, [lstP], [], fun _ => zc⟩
def clO (m : Int) : Op5 := ⟨1, 2, m, 0, 0⟩
theorem cl_0 (ms : List Int) (r : Int) : newBsn ms.length [r] 1 10 = clS ms r 0 := by
  unfold newBsn clS
  simp
theorem cl_fl {ms : List Int} {r : Int} {k : Nat} (hk : k < ms.length) : (clS ms r k).fl[k]? = some newFl := by
  unfold clS
  have h1 : ((ms.take k).map mkF).length = k := by rw [List.length_map, List.length_take]; omega
  show ((ms.take k).map mkF ++ List.replicate (ms.length - k) newFl)[k]? = _
  rw [List.getElem?_append_right (by omega), h1, Nat.sub_self, List.getElem?_replicate, if_pos (by omega)]
theorem cl_len {ms : List Int} {r : Int} {k : Nat} (hk : k ≤ ms.length) : (clS ms r k).fl.length = ms.length := by
  unfold clS
  show ((ms.take k).map mkF ++ List.replicate (ms.length - k) newFl).length = _
  rw [List.length_append, List.length_map, List.length_take, List.length_replicate]; omega
theorem cl_set {ms : List Int} {k : Nat} {m : Int} (hm : ms[k]? = some m) : ((ms.take k).map mkF ++ List.replicate (ms.length - k) newFl).set k (mkF m) = (ms.take (k + 1)).map mkF ++ List.replicate (ms.length - (k + 1)) newFl := by
  have hk := (List.getElem?_eq_some_iff.1 hm).1
  have h1 : ((ms.take k).map mkF).length = k := by rw [List.length_map, List.length_take]; omega
  rw [List.set_append_right _ _ (by omega), h1, Nat.sub_self, List.take_add_one, hm, show ms.length - k = (ms.length - (k + 1)) + 1 by omega, List.replicate_succ, List.set_cons_zero]
  simp
theorem kepC_nil (cv : Kyy → Nat → Int) : kepC [] cv = fun _ => zc := by
  funext k
  unfold kepC
  rw [if_neg (by simp)]
theorem mx_lst : mxP lstP lstP = lstP := by decide
theorem cl_drop {ms : List Int} {r : Int} {k : Nat} : drpB (cutB (clS ms r k) [lstP]) = clS ms r k := by
  unfold cutB clS drpB
  simp only [List.filter_nil, kepC_nil, List.zipWith_cons_cons, List.zipWith_nil_left, mx_lst]
theorem cl_R {ms : List Int} {r : Int} {k : Nat} {m : Int} (hm : ms[k]? = some m) : fdR (clS ms r k) k [lstP] [clO m] = (pncB (clS ms r k) k m, none) := by
  unfold fdR takB
  rw [cl_drop, List.foldl_cons, List.foldl_nil]
  exact stp_mark rfl
theorem cl_step {ms : List Int} {r : Int} {k : Nat} {m : Int} (hm : ms[k]? = some m) : fdZ (clS ms r k) k 1 [lstP] [clO m] = clS ms r (k + 1) := by
  have hk := (List.getElem?_eq_some_iff.1 hm).1
  have hf := cl_fl (r := r) hk
  unfold fdZ
  rw [cl_R hm]
  have e1 : tkN 1 (pncB (clS ms r k) k m, none) = 2 := by show wrap64 (1 + 1) = 2; unfold wrap64; omega
  rw [e1, pncB_at m hf]
  have h2 : ({ clS ms r k with fl := (clS ms r k).fl.set k (pncF newFl m) } : Bsn).fl[k]? = some (pncF newFl m) := by
    show ((clS ms r k).fl.set k (pncF newFl m))[k]? = _
    rw [List.getElem?_set_self (by rw [cl_len (by omega)]; exact hk)]
  rw [nxtB_at 2 h2]
  have e2 : ({ pncF newFl m with nx := 2 } : Flw) = mkF m := by unfold pncF newFl mkF; simp
  rw [e2]
  show ({ clS ms r k with fl := ((clS ms r k).fl.set k (pncF newFl m)).set k (mkF m) } : Bsn) = _
  rw [List.set_set]
  unfold clS
  simp only
  rw [cl_set hm]
theorem cl_form {ms : List Int} {r : Int} {k : Nat} {m : Int} (hk : k < ms.length) : fdF (clS ms r k) (k : Int) 1 1 [lstP] [clO m] := by
  refine ⟨⟨by omega, by rw [cl_len (by omega)]; omega⟩, rfl, by unfold wrap64; omega, ?_, by simp⟩
  intro o ho
  simp at ho
  subst ho
  unfold clO
  dsimp only
  omega
theorem cl_lm_no {ms : List Int} {r : Int} {k : Nat} (hk : k < ms.length) : lmB (clS ms r k).fl = false := by
  cases h : lmB (clS ms r k).fl
  · rfl
  · unfold lmB at h
    rw [List.all_eq_true] at h
    have := h newFl (List.mem_of_getElem? (cl_fl (r := r) hk))
    cases this
theorem cl_fl_end (ms : List Int) (r : Int) : (clS ms r ms.length).fl = ms.map mkF := by
  unfold clS
  simp
theorem cl_lm_yes (ms : List Int) (r : Int) : lmB (clS ms r ms.length).fl = true := by
  rw [cl_fl_end]
  unfold lmB
  simp [mkF]
theorem min_le_fold : ∀ (l : List Flw) (a : Int), l.foldl (fun a f => min a f.mt) a ≤ a ∧ ∀ f ∈ l, l.foldl (fun a f => min a f.mt) a ≤ f.mt
  | [], a => ⟨Int.le_refl _, fun f h => (by cases h)⟩
  | g :: l, a => by
    obtain ⟨h1, h2⟩ := min_le_fold l (min a g.mt)
    rw [List.foldl_cons]
    refine ⟨by omega, fun f hf => ?_⟩
    rcases List.mem_cons.1 hf with rfl | hf
    · omega
    · exact h2 f hf
theorem cl_min {ms : List Int} {r : Int} {m : Int} (hm : m ∈ ms) : lmV (clS ms r ms.length).fl ≤ m := by
  rw [lmV_yes (cl_lm_yes ms r), cl_fl_end]
  exact (min_le_fold (ms.map mkF) _).2 (mkF m) (List.mem_map_of_mem hm)
theorem flD_mono {a b r : Int} (h : a ≤ b) (hr : 1 ≤ r) : flD a r ≤ flD b r := by
  unfold flD
  rw [if_neg (by omega), if_neg (by omega)]
  exact Int.ediv_le_ediv (by omega) h
theorem cl_ahead {ms : List Int} {r : Int} {m t y : Int} (hm : m ∈ ms) (hr : 1 ≤ r) (hy : J64 y) : pl (flD (max t m) r) y (flD (lmV (clS ms r ms.length).fl) r) (-9223372036854775808) = false := by
  have h1 := cl_min (r := r) hm
  have h2 := flD_mono (a := lmV (clS ms r ms.length).fl) (b := max t m) (r := r) (by omega) hr
  unfold pl
  apply decide_eq_false
  unfold J64 at hy
  omega
theorem cl_cls (ms : List Int) (r : Int) : clsP (clS ms r ms.length) 0 = (flD (lmV (clS ms r ms.length).fl) r, -9223372036854775808) := clsP_yes (cl_lm_yes ms r) (by show ([r] : List Int)[0 / (1 : Int).toNat]? = some r; simp)
end Go.Proofs.Ytikopgdalnolaaa
