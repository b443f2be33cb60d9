/-
  Slices that are read beside blocks that turn; places of a cut, on the way. Nothing here names the program.
-/
import Derived.Test.YtfnageillhpjpaaPk26
import Derived.Test.YtfnageillhpjpaaPk17
namespace Go.Proofs.Ytfnageillhpjpaa
open Go.RowKit
set_option linter.unusedVariables false
set_option maxRecDepth 100000

theorem EO.at0 {α : Type} {E : En α} {e : TypeId} {W : World} {B : Nat} {v : Value} {l : List α} (h : EO E e W B v l) (hl : 0 < l.length) : ∃ g cap, v = .slice (some ⟨g, 0, none⟩) l.length cap := by
  rcases h.2 with ⟨_, h2⟩ | ⟨g, cap, cur, e1, _⟩
  · omega
  · exact ⟨g, cap, e1⟩
/-- The block of a slice isn't one of these. -/
def OutB (v : Value) (X : Nat → Prop) : Prop := ∀ a n c, v = .slice (some a) n c → ¬ X a.block
theorem ER.frm {α : Type} {E : En α} {W W' : World} {v : Value} {l : List α} {X : Nat → Prop} (h : ER E W v l) (hf : Frm X W W') (hx : OutB v X) : ER E W' v l := by
  obtain ⟨q, cap, g, off, h1, h2, h3, h4, h5⟩ := h
  refine ⟨q, cap, g, off, h1, h2, h3, fun h => ⟨(h4 h).1, Nat.lt_of_lt_of_le (h4 h).2 hf.size⟩, fun j u hu => ?_⟩
  have hl : 0 < l.length := by
    have := (List.getElem?_eq_some_iff.1 hu).1
    rw [E.fl_len] at this
    exact Nat.pos_of_ne_zero (fun e => by rw [e] at this; simp at this)
  obtain ⟨rfl, hg⟩ := h4 hl
  rw [← h5 j u hu]
  unfold World.cell?
  rw [hf.other g hg (hx _ _ _ h1)]
/-- How far the places of a cut have come. -/
def mixP (ct ps : List (Int × Int)) (k : Nat) : List (Int × Int) := List.zipWith mxP (ct.take k) (ps.take k) ++ ct.drop k
theorem mixP_0 (ct ps : List (Int × Int)) : mixP ct ps 0 = ct := by simp [mixP]
theorem mixP_all {ct ps : List (Int × Int)} (h : ps.length = ct.length) : mixP ct ps ct.length = List.zipWith mxP ct ps := by
  unfold mixP
  rw [List.take_of_length_le (Nat.le_refl _), List.take_of_length_le (by omega), List.drop_of_length_le (Nat.le_refl _), List.append_nil]
theorem mixP_len {ct ps : List (Int × Int)} (h : ps.length = ct.length) {k : Nat} (hk : k ≤ ct.length) : (mixP ct ps k).length = ct.length := by
  unfold mixP
  rw [List.length_append, List.length_zipWith, List.length_take, List.length_take, List.length_drop]; omega
theorem mixP_at {ct ps : List (Int × Int)} (h : ps.length = ct.length) {k : Nat} (hk : k < ct.length) : (mixP ct ps k)[k]? = ct[k]? := by
  unfold mixP
  have hl : (List.zipWith mxP (ct.take k) (ps.take k)).length = k := by rw [List.length_zipWith, List.length_take, List.length_take]; omega
  rw [List.getElem?_append_right (by omega), hl, Nat.sub_self, List.getElem?_drop, Nat.add_zero]
theorem mixP_next {ct ps : List (Int × Int)} (h : ps.length = ct.length) {k : Nat} {c p : Int × Int} (hc : ct[k]? = some c) (hp : ps[k]? = some p) : mixP ct ps (k + 1) = (mixP ct ps k).set k (mxP c p) := by
  have hk := (List.getElem?_eq_some_iff.1 hc).1
  have hl : (List.zipWith mxP (ct.take k) (ps.take k)).length = k := by rw [List.length_zipWith, List.length_take, List.length_take]; omega
  unfold mixP
  have hd : ct.drop k = c :: ct.drop (k + 1) := by
    rw [List.drop_eq_getElem_cons hk]
    congr 1
    have := (List.getElem?_eq_some_iff.1 hc).2
    exact this
  rw [List.set_append_right _ _ (by omega), hl, Nat.sub_self, hd, List.set_cons_zero, List.take_add_one, List.take_add_one, hc, hp]
  rw [List.zipWith_append (by rw [List.length_take, List.length_take]; omega)]
  simp
theorem mixP_same {ct ps : List (Int × Int)} (h : ps.length = ct.length) {k : Nat} {c p : Int × Int} (hc : ct[k]? = some c) (hp : ps[k]? = some p) (hm : mxP c p = c) : mixP ct ps (k + 1) = mixP ct ps k := by
  rw [mixP_next h hc hp, hm]
  have hk := (List.getElem?_eq_some_iff.1 hc).1
  have h1 := mixP_at h hk
  rw [hc] at h1
  obtain ⟨h2, h3⟩ := List.getElem?_eq_some_iff.1 h1
  rw [← h3]
  exact List.set_getElem_self h2
end Go.Proofs.Ytfnageillhpjpaa
