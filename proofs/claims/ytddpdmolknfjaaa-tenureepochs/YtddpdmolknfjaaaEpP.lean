/-
  Three watches over one register, plainly: epochs rise by one with each holder.
-/
import Derived.Test.YtddpdmolknfjaaaTnC
namespace Go.Proofs.Ytddpdmolknfjaaa
open Go.RowKit
set_option linter.unusedVariables false

def upd {α : Type} (f : Nat → α) (k : Nat) (x : α) : Nat → α := fun j => if j = k then x else f j
theorem upd_at {α : Type} (f : Nat → α) (k : Nat) (x : α) : upd f k x k = x := if_pos rfl
theorem upd_ne {α : Type} (f : Nat → α) {k j : Nat} (x : α) (h : j ≠ k) : upd f k x j = f j := if_neg h
/-- No value, or a lease. -/
def VOk (v : List Int) : Prop := v = [] ∨ isL v = true
theorem VOk.len {v : List Int} (h : VOk v) : v.length ≤ 4 := by
  rcases h with rfl | h
  · exact Nat.zero_le _
  · exact Nat.le_of_eq (isL_len h)
/-- What a watch is, of node k in life lf, with last the register's lease. -/
structure WOk (k : Nat) (lf : Int) (la : Le) (S : Wt) : Prop where
  nd : S.nd = (k : Int)
  lf : S.lf = lf
  vo : VOk S.vl
  ep : (tkL S.vl).e ≤ la.e
/-- The register's value and its last lease. -/
def Reg (val : List Int) (la : Le) : Prop := (val = [] ∧ la = zL) ∨ (isL val = true ∧ tkL val = la)
structure EpI (i : Nat) (val : List Int) (la : Le) (Sf : Nat → Wt) (lv : Nat → Int) : Prop where
  va : Reg val la
  be : 0 ≤ la.e ∧ la.e ≤ (i : Int) ∧ 0 ≤ la.b ∧ la.b ≤ (i : Int)
  wo : ∀ k, k < 3 → WOk k (lv k) la (Sf k)
  li : ∀ k, k < 3 → 0 ≤ lv k ∧ lv k ≤ (i : Int)
/-- What may become of the register. -/
def Stp (la : Le) (v : List Int) : Prop := (v = [] ∧ la = zL) ∨ (isL v = true ∧ (((tkL v).e = la.e ∧ (tkL v).h = la.h ∧ (tkL v).l = la.l ∧ la.b ≤ (tkL v).b ∧ (tkL v).b ≤ la.b + 1) ∨ ((tkL v).e = la.e + 1 ∧ (tkL v).b = 0)))
theorem Stp.vok {la : Le} {v : List Int} (h : Stp la v) : VOk v := by
  rcases h with ⟨h, -⟩ | ⟨h, -⟩
  · exact .inl h
  · exact .inr h
theorem Reg.stp {val : List Int} {la : Le} (h : Reg val la) : Stp la val := by
  rcases h with ⟨h1, h2⟩ | ⟨h1, h2⟩
  · exact .inl ⟨h1, h2⟩
  · refine .inr ⟨h1, .inl ?_⟩
    rw [h2]
    exact ⟨rfl, rfl, rfl, Int.le_refl _, by omega⟩
theorem Reg.vok {val : List Int} {la : Le} (h : Reg val la) : VOk val := h.stp.vok
theorem Reg.tk {val : List Int} {la : Le} (h : Reg val la) : tkL val = la := by
  rcases h with ⟨rfl, rfl⟩ | ⟨-, h⟩
  · rfl
  · exact h
theorem tk_pos {v : List Int} (h : isL v = true) : 1 ≤ (tkL v).e ∧ 0 ≤ (tkL v).h ∧ 0 ≤ (tkL v).l ∧ 0 ≤ (tkL v).b := by
  obtain ⟨e, h', l, b, rfl⟩ := four (isL_len h)
  have c := of_decide_eq_true (show decide (1 ≤ e ∧ 0 ≤ h' ∧ 0 ≤ l ∧ 0 ≤ b) = true from h)
  rw [(isL_yes c).2]
  exact c
theorem gd_two {o n : List Int} (h1 : o.length ≤ 32) (h2 : n.length ≤ 32) : gdG ⟨2, o, n⟩ = true := by
  unfold gdG
  show gdC 2 o.length n.length = true
  rw [gdC_2]
  simp [h1, h2]
/-- What is done of what a watch wants. -/
theorem stp_do {i k : Nat} {val : List Int} {la : Le} {S : Wt} {lf : Int} (hr : Reg val la) (hb : 0 ≤ la.e ∧ la.e ≤ (i : Int) ∧ 0 ≤ la.b ∧ la.b ≤ (i : Int)) (hi : i ≤ 100000) (hw : WOk k lf la S) (hl : 0 ≤ lf) :
    (doN ⟨wnK S, wnO S, wnN S⟩ val = 0 ∨ doN ⟨wnK S, wnO S, wnN S⟩ val = 11) ∧ Stp la (doL ⟨wnK S, wnO S, wnN S⟩ val) := by
  by_cases h0 : wnW S = 0
  · have e : wnK S = 1 ∧ wnO S = [] ∧ wnN S = [] := by unfold wnK wnO wnN; rw [h0]; exact ⟨rfl, rfl, rfl⟩
    rw [e.1, e.2.1, e.2.2]
    obtain ⟨a, b⟩ := do_read (c := ⟨1, [], []⟩) (v := val) rfl rfl
    rw [b]
    exact ⟨.inl a, hr.stp⟩
  have hk : wnK S = 2 := by unfold wnK; rw [if_neg h0]
  have ho : wnO S = S.vl := by unfold wnO; rw [if_neg h0]
  have hn : (wnN S).length = 4 := by
    unfold wnN
    rw [if_neg h0]
    split <;> rfl
  have hlen := hw.vo.len
  have hg : gdG ⟨wnK S, wnO S, wnN S⟩ = true := by rw [hk, ho]; exact gd_two (by omega) (by omega)
  by_cases hv : val = S.vl
  rotate_left
  · obtain ⟨a, b⟩ := do_stale (c := ⟨wnK S, wnO S, wnN S⟩) (v := val) hg hk (by show val ≠ wnO S; rw [ho]; exact hv)
    rw [b]
    exact ⟨.inr a, hr.stp⟩
  obtain ⟨a, b⟩ := do_swap (c := ⟨wnK S, wnO S, wnN S⟩) (v := val) hg hk (by show val = wnO S; rw [ho]; exact hv)
  rw [b]
  refine ⟨.inl a, ?_⟩
  have ht : tkL S.vl = la := by rw [← hv]; exact hr.tk
  show Stp la (wnN S)
  by_cases h1 : wnW S = 1
  · have hN : wnN S = [la.e, la.h, la.l, nx la.b] := by unfold wnN; rw [if_neg h0, if_pos h1, ht]
    have hld : ldB S = true := by
      unfold wnW at h1
      cases hsn : S.sn
      · rw [hsn] at h1; simp at h1
      · cases hl' : ldB S
        · rw [hsn, hl'] at h1
          revert h1
          cases isL S.vl && decide (S.ag < S.tk) <;> simp
        · rfl
    have hisl : isL S.vl = true := by
      unfold ldB at hld
      exact ((Bool.and_eq_true _ _).mp hld).1
    have hp := tk_pos hisl
    rw [ht] at hp
    have hx : nx la.b = la.b + 1 := nx_ok (by omega) (by omega)
    obtain ⟨y1, y2⟩ := isL_yes (e := la.e) (h := la.h) (l := la.l) (b := la.b + 1) (by omega)
    rw [hN, hx]
    refine .inr ⟨y1, .inl ?_⟩
    rw [y2]
    exact ⟨rfl, rfl, rfl, by show la.b ≤ la.b + 1; omega, Int.le_refl _⟩
  · have hN : wnN S = [nx la.e, S.nd, S.lf, 0] := by unfold wnN; rw [if_neg h0, if_neg h1, ht]
    have hx : nx la.e = la.e + 1 := nx_ok (by omega) (by omega)
    have hnd := hw.nd
    have hlf := hw.lf
    obtain ⟨y1, y2⟩ := isL_yes (e := la.e + 1) (h := S.nd) (l := S.lf) (b := 0) (by omega)
    rw [hN, hx]
    refine .inr ⟨y1, .inr ?_⟩
    rw [y2]
    exact ⟨rfl, rfl⟩
theorem saw_vl (S : Wt) (v : List Int) : (sawW S v).vl = v ∧ (sawW S v).nd = S.nd ∧ (sawW S v).lf = S.lf := by
  unfold sawW
  split
  · rename_i h
    have := of_decide_eq_true ((Bool.and_eq_true _ _).mp h).2
    exact ⟨this.symm, rfl, rfl⟩
  · exact ⟨rfl, rfl, rfl⟩
theorem tick_vl (S : Wt) : (tickW S).vl = S.vl ∧ (tickW S).nd = S.nd ∧ (tickW S).lf = S.lf := by
  unfold tickW
  split <;> exact ⟨rfl, rfl, rfl⟩
/-- The lease that is last now. -/
def nowL (la : Le) (v : List Int) : Le := if isL v then tkL v else la
theorem nowL_yes {la : Le} {v : List Int} (h : isL v = true) : nowL la v = tkL v := by unfold nowL; rw [h]; rfl
theorem nowL_no {la : Le} {v : List Int} (h : isL v = false) : nowL la v = la := by unfold nowL; rw [h]; rfl
theorem Stp.reg {la : Le} {v : List Int} (h : Stp la v) : Reg v (nowL la v) := by
  rcases h with ⟨rfl, rfl⟩ | ⟨h, -⟩
  · exact .inl ⟨rfl, rfl⟩
  · rw [nowL_yes h]
    exact .inr ⟨h, rfl⟩
theorem Stp.le {la : Le} {v : List Int} (h : Stp la v) : la.e ≤ (nowL la v).e := by
  rcases h with ⟨rfl, rfl⟩ | ⟨h, h2⟩
  · exact Int.le_refl _
  · rw [nowL_yes h]
    rcases h2 with h2 | h2 <;> omega
theorem Stp.be {la : Le} {v : List Int} {i : Nat} (h : Stp la v) (hb : 0 ≤ la.e ∧ la.e ≤ (i : Int) ∧ 0 ≤ la.b ∧ la.b ≤ (i : Int)) : 0 ≤ (nowL la v).e ∧ (nowL la v).e ≤ ((i + 1 : Nat) : Int) ∧ 0 ≤ (nowL la v).b ∧ (nowL la v).b ≤ ((i + 1 : Nat) : Int) := by
  rcases h with ⟨rfl, rfl⟩ | ⟨h, h2⟩
  · show 0 ≤ (0 : Int) ∧ (0 : Int) ≤ _ ∧ 0 ≤ (0 : Int) ∧ (0 : Int) ≤ _
    omega
  · rw [nowL_yes h]
    have := tk_pos h
    rcases h2 with h2 | h2 <;> omega
/-- One act: the watches as they are behind it. -/
theorem EpI.next {i : Nat} {val v : List Int} {la : Le} {Sf Sf' : Nat → Wt} {lv lv' : Nat → Int} (h : EpI i val la Sf lv) (hs : Stp la v)
    (hw : ∀ k, k < 3 → WOk k (lv' k) (nowL la v) (Sf' k)) (hl : ∀ k, k < 3 → 0 ≤ lv' k ∧ lv' k ≤ ((i + 1 : Nat) : Int)) : EpI (i + 1) v (nowL la v) Sf' lv' :=
  ⟨hs.reg, hs.be h.be, hw, hl⟩
theorem WOk.up {k : Nat} {lf : Int} {la la' : Le} {S : Wt} (h : WOk k lf la S) (hl : la.e ≤ la'.e) : WOk k lf la' S := ⟨h.nd, h.lf, h.vo, Int.le_trans h.ep hl⟩
theorem WOk.tick {k : Nat} {lf : Int} {la : Le} {S : Wt} (h : WOk k lf la S) : WOk k lf la (tickW S) := by
  obtain ⟨a, b, c⟩ := tick_vl S
  exact ⟨b.trans h.nd, c.trans h.lf, by rw [a]; exact h.vo, by rw [a]; exact h.ep⟩
theorem WOk.saw {k : Nat} {lf : Int} {la : Le} {S : Wt} (h : WOk k lf la S) {v : List Int} (hs : Stp la v) : WOk k lf (nowL la v) (sawW S v) := by
  obtain ⟨a, b, c⟩ := saw_vl S v
  refine ⟨b.trans h.nd, c.trans h.lf, by rw [a]; exact hs.vok, ?_⟩
  rw [a]
  exact Int.le_of_eq (by rw [hs.reg.tk])
theorem wok_new (k : Nat) (lf t : Int) {la : Le} (h : 0 ≤ la.e) : WOk k lf la (newW (k : Int) lf t) := ⟨rfl, rfl, .inl rfl, h⟩
theorem EpI.one {i k : Nat} {val v : List Int} {la : Le} {Sf : Nat → Wt} {lv : Nat → Int} {S' : Wt} (h : EpI i val la Sf lv) (hs : Stp la v) (hS : WOk k (lv k) (nowL la v) S') : EpI (i + 1) v (nowL la v) (upd Sf k S') lv := by
  refine h.next hs (fun j hj => ?_) (fun j hj => by have := h.li j hj; omega)
  by_cases e : j = k
  · subst e
    rw [upd_at]
    exact hS
  · rw [upd_ne _ _ e]
    exact (h.wo j hj).up hs.le
theorem EpI.live {i k : Nat} {val : List Int} {la : Le} {Sf : Nat → Wt} {lv : Nat → Int} {t : Int} (h : EpI i val la Sf lv) (hk : k < 3) : EpI (i + 1) val (nowL la val) (upd Sf k (newW (k : Int) (lv k + 1) t)) (upd lv k (lv k + 1)) := by
  have hs := h.va.stp
  have hb := hs.be h.be
  refine h.next hs (fun j hj => ?_) (fun j hj => ?_)
  · by_cases e : j = k
    · subst e
      rw [upd_at, upd_at]
      exact wok_new _ _ _ hb.1
    · rw [upd_ne _ _ e, upd_ne _ _ e]
      exact (h.wo j hj).up hs.le
  · by_cases e : j = k
    · subst e
      rw [upd_at]
      have := h.li j hj
      omega
    · rw [upd_ne _ _ e]
      have := h.li j hj
      omega
theorem led {i k : Nat} {val : List Int} {la : Le} {Sf : Nat → Wt} {lv : Nat → Int} (h : EpI i val la Sf lv) (hk : k < 3) (hl : ldB (Sf k) = true) : ldN (Sf k) ≤ la.e := by
  unfold ldN
  rw [hl]
  exact (h.wo k hk).ep
end Go.Proofs.Ytddpdmolknfjaaa
