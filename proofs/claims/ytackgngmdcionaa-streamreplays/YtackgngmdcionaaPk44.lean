/-
  Plain mathematics of replays: one behind the other they give all that is held and the last mark.
-/
import Derived.Test.YtackgngmdcionaaPk43
namespace Go.Proofs.Ytackgngmdcionaa
open Go.RowKit
set_option linter.unusedVariables false

/-- What kinds a stream's operations have. -/
structure Kd (S : Sm) : Prop where
  hk : ∀ o ∈ S.ho, o.k = 1
  mq : mkd S = true → S.mr.k = 2
  mg : mkd S = true → 1 ≤ S.mr.s
theorem kd_new (res : List Int) (sh hd : Int) : Kd (newS res sh hd) := ⟨fun o h => (by cases h), fun h => absurd h (by unfold mkd newS; simp), fun h => absurd h (by unfold mkd newS; simp)⟩
theorem Kd.put {S : Sm} (h : Kd S) (hn : 1 ≤ S.nx) (o : Op5) : Kd (putS S o) := by
  by_cases c : putN S o = 0
  · by_cases k : o.k = 1
    · rw [putS_sample c k]
      refine ⟨fun x hx => ?_, h.mq, h.mg⟩
      rcases List.mem_append.1 hx with hx | hx
      · exact h.hk x hx
      · rw [List.mem_singleton.1 hx]; exact k
    · rw [putS_mark c k]
      refine ⟨h.hk, fun _ => ?_, fun _ => by have := putN_seq c; show 1 ≤ o.s; omega⟩
      show o.k = 2
      unfold putN at c
      rw [if_neg (by have := putN_seq (S := S) (o := o) (by unfold putN; exact c); omega), if_neg k] at c
      by_cases k2 : o.k = 2
      · exact k2
      · rw [if_neg k2] at c; cases c
  · rw [putS_no c]; exact h
theorem Kd.cut {S : Sm} (h : Kd S) (ps : List (Int × Int)) : Kd (cutS S ps) := ⟨fun o ho => h.hk o (List.mem_filter.1 ho).1, h.mq, h.mg⟩
theorem allS_in {S : Sm} (h : Oks S) : ∀ o ∈ allS S, o.s < S.nx := by
  unfold allS
  intro o ho
  split at ho
  · rcases insO_mem.1 ho with h1 | rfl
    · exact h.lt o h1
    · exact h.ml
  · exact h.lt o ho
/-- Marks alone have the kind 2. -/
theorem allS_kind {S : Sm} (h : Kd S) {o : Op5} (ho : o ∈ allS S) (hk : o.k = 2) : mkd S = true ∧ o = S.mr := by
  unfold allS at ho
  split at ho
  · rename_i hm
    rcases insO_mem.1 ho with h1 | rfl
    · have := h.hk o h1; omega
    · exact ⟨hm, rfl⟩
  · have := h.hk o ho; omega
theorem allS_held {S : Sm} (hs : Oks S) (h : Kd S) : (allS S).filter (fun o => decide (o.k ≠ 2)) = S.ho := by
  have hf : ∀ l : List Op5, (∀ o ∈ l, o.k = 1) → l.filter (fun o => decide (o.k ≠ 2)) = l := fun l hl => List.filter_eq_self.2 fun o ho => by have := hl o ho; simp; omega
  unfold allS
  split
  · rename_i hm
    obtain ⟨i, hi⟩ : ∃ i, FndP S.ho S.mr.s i := by
      refine ⟨(S.ho.filter fun x => decide (x.s < S.mr.s)).length, List.length_filter_le _ _, ?_, ?_⟩
      all_goals
        have hsrt := hs.srt
        generalize S.ho = l at hsrt
        induction l with
        | nil => intro j o hj; simp at hj
        | cons x r ih =>
          obtain ⟨h1, h2⟩ := List.pairwise_cons.1 hsrt
          intro j o hj hji
          rcases Int.lt_or_le x.s S.mr.s with c | c
          · rw [List.filter_cons_of_pos (by simpa using c), List.length_cons] at hji
            cases j with
            | zero => first | (simp at hj; subst hj; exact c) | omega
            | succ j => exact ih h2 j o (by simpa using hj) (by omega)
          · have hnil : r.filter (fun x => decide (x.s < S.mr.s)) = [] := List.filter_eq_nil_iff.2 fun y hy => by have := h1 y hy; simp; omega
            rw [List.filter_cons_of_neg (by simp; omega), hnil] at hji
            cases j with
            | zero => first | (simp at hji; done) | (simp at hj; subst hj; exact c)
            | succ j => first | (simp at hji; done) | (have := h1 o (List.mem_of_getElem? (show r[j]? = some o by simpa using hj)); omega)
    have e := fnd_cut hi
    unfold insO
    rw [e.1, e.2, List.filter_append, List.filter_cons_of_neg (by have := h.mq hm; simp; omega), hf _ (fun o ho => h.hk o (List.mem_of_mem_take ho)), hf _ (fun o ho => h.hk o (List.mem_of_mem_drop ho)), List.take_append_drop]
  · exact hf _ h.hk
/-- How far replays have come. -/
structure Rep (S : Sm) (fr : Int) (i c : Nat) : Prop where
  f0 : 1 ≤ fr
  f1 : fr ≤ S.nx
  fn : FndP (allS S) fr i
  ci : c ≤ i + (if fr = S.nx then 1 else 0)
theorem rep_0 {S : Sm} (h : Oks S) (hK : Kd S) : Rep S 1 0 0 := by
  refine ⟨by omega, h.n0, ⟨Nat.zero_le _, fun j o _ hj => absurd hj (by omega), fun j o hj _ => ?_⟩, by omega⟩
  have ho := List.mem_of_getElem? hj
  unfold allS at ho
  split at ho
  · rename_i hm
    rcases insO_mem.1 ho with h1 | rfl
    · have := h.gt o h1; omega
    · exact hK.mg hm
  · have := h.gt o ho; omega
theorem sinL_drop {S : Sm} {fr : Int} {i : Nat} (h : FndP (allS S) fr i) : sinL S fr = (allS S).drop i := (fnd_cut h).2
/-- One more replay. -/
theorem Rep.next {S : Sm} (hs : Oks S) {fr : Int} {i c : Nat} (h : Rep S fr i c) (hlt : fr < S.nx) {m : Int} (hm : 1 ≤ m) :
    ∃ i', (allS S).take i ++ repL S fr m = (allS S).take i' ∧ Rep S (repN S fr m + 1) i' (c + 1) ∧ fr ≤ repN S fr m ∧ repN S fr m < S.nx ∧ ((repL S fr m).length : Int) ≤ m := by
  have hsrt := allS_srt hs
  have hd := sinL_drop h.fn
  have hle := h.fn.le
  have hci := h.ci
  rw [if_neg (by omega)] at hci
  unfold repL repN repK
  rw [hd, List.length_drop]
  generalize hk : min (max m 0).toNat ((allS S).length - i) = k
  refine ⟨i + k, by rw [List.take_add], ?_⟩
  by_cases c1 : k < (allS S).length - i
  · rw [if_pos c1, if_neg (by omega)]
    obtain ⟨o, ho⟩ : ∃ o, (allS S)[i + (k - 1)]? = some o := ⟨(allS S)[i + (k - 1)]'(by omega), List.getElem?_eq_getElem (by omega)⟩
    have hg : ((allS S).drop i).getD (k - 1) zOp = o := by rw [List.getD_eq_getElem?_getD, List.getElem?_drop, ho]; rfl
    rw [hg]
    have h1 := h.fn.hi _ _ ho (by omega)
    have h2 := allS_in hs o (List.mem_of_getElem? ho)
    have h0 := h.f0
    have hmono : ∀ (a b : Nat) (x y : Op5), (allS S)[a]? = some x → (allS S)[b]? = some y → a < b → x.s < y.s := fun a b x y ha hb hab => by
      obtain ⟨q1, e1⟩ := List.getElem?_eq_some_iff.1 ha
      obtain ⟨q2, e2⟩ := List.getElem?_eq_some_iff.1 hb
      rw [← e1, ← e2]
      exact List.pairwise_iff_getElem.1 hsrt a b q1 q2 hab
    refine ⟨⟨by omega, by omega, ⟨by omega, fun j x hx hj => ?_, fun j x hx hj => ?_⟩, by split <;> omega⟩, h1, h2, by rw [List.length_take, List.length_drop]; omega⟩
    · by_cases e : j = i + (k - 1)
      · subst e; rw [ho] at hx; cases hx; omega
      · have := hmono j (i + (k - 1)) x o hx ho (by omega); omega
    · have := hmono (i + (k - 1)) j o x ho hx (by omega); omega
  · rw [if_neg c1]
    refine ⟨⟨by have := hs.n0; omega, by omega, ⟨by omega, fun j x hx _ => ?_, fun j x hx hj => absurd (List.getElem?_eq_some_iff.1 hx).1 (by omega)⟩, by rw [if_pos (by omega)]; omega⟩, by omega, by omega, by rw [List.length_take, List.length_drop]; omega⟩
    have := allS_in hs x (List.mem_of_getElem? hx)
    omega
theorem Rep.full {S : Sm} (hs : Oks S) {i c : Nat} (h : Rep S S.nx i c) : (allS S).take i = allS S := by
  refine List.take_of_length_le ?_
  by_cases e : (allS S).length ≤ i
  · exact e
  · obtain ⟨o, ho⟩ : ∃ o, (allS S)[i]? = some o := ⟨(allS S)[i]'(by omega), List.getElem?_eq_getElem (by omega)⟩
    have := h.fn.hi i o ho (Nat.le_refl _)
    have := allS_in hs o (List.mem_of_getElem? ho)
    omega
end Go.Proofs.Ytackgngmdcionaa
