/-
  A region that draws its order and whose last operation, z, writes what others read: what holds need hold only until z has come up. Nothing here names the program.
  What ballot's small calls answer, and the document's: Less, whole, isNone, asks, Next, Good.
  ballot.clone, ballotOf; the document's Good.
-/
import Derived.Test.YtlhamckpgijjmaaPk01
import Derived.Deep.RegionHeld3
import Derived.Test.YtlhamckpgijjmaaRows
import Derived.Test.YtlhamckpgijjmaaPk07
namespace Go.Proofs.Ytlhamckpgijjmaa
set_option linter.unusedVariables false

section
variable {P : Program} {ops : Array Oper} {Q : Exit → Act → World → Prop} {md : Region.Mode} {S : World → Prop} {z : Nat}
/-- Operation k waits for i. -/
def waits (md : Region.Mode) (ops : Array Oper) (k i : Nat) : Bool := match ops[k]? with
  | some o => o.after.any fun e => Region.binds md e && e.on == i
  | none => false
/-- A chain of operations that have not come up, each of which waits for the one ahead of it, the first for i. -/
def chainB (md : Region.Mode) (ops : Array Oper) (l : Array Bool) : Nat → List Nat → Bool
  | _, [] => true
  | i, k :: r => waits md ops k i && (!(l.getD k true)) && chainB md ops l k r
theorem chain_away {l : Array Bool} {j : Nat} (hj : j ∈ Region.ready md ops l) : ∀ (c : List Nat) (i : Nat), l.getD i true = false → chainB md ops l i c = true → j ∉ c
  | [], _, _, _ => by simp
  | k :: r, i, hi, h => by
    simp only [chainB, Bool.and_eq_true, Bool.not_eq_true'] at h
    obtain ⟨⟨hw, hk⟩, hr⟩ := h
    intro hm
    rcases List.mem_cons.1 hm with rfl | hm
    · obtain ⟨_, oj, hoj, hall⟩ := mem_ready.1 hj
      unfold waits at hw
      rw [hoj] at hw
      simp only [Array.any_eq_true', Bool.and_eq_true, beq_iff_eq] at hw
      obtain ⟨e, he, hb, hon⟩ := hw
      have x1 := hall e he hb
      rw [hon] at x1
      rcases Nat.lt_or_ge i l.size with h' | h'
      · simp [h'] at hi x1; rw [hi] at x1; cases x1
      · simp [Array.getElem?_eq_none h'] at x1
    · exact chain_away hj r k hk hr hm
theorem chain_set {l : Array Bool} {j : Nat} : ∀ (c : List Nat) (i : Nat), j ∉ c → chainB md ops l i c = true → chainB md ops (l.setIfInBounds j true) i c = true
  | [], _, _, _ => rfl
  | k :: r, i, hj, h => by
    simp only [chainB, Bool.and_eq_true, Bool.not_eq_true'] at h ⊢
    obtain ⟨⟨hw, hk⟩, hr⟩ := h
    simp only [List.mem_cons, not_or] at hj
    exact ⟨⟨hw, by rw [getD_set_ne true hj.1]; exact hk⟩, chain_set r k hj.2 hr⟩
theorem chain_un {l : Array Bool} : ∀ (c : List Nat) (i : Nat), chainB md ops l i c = true → ∀ k ∈ c, l.getD k true = false
  | [], _, _, _, hk => by simp at hk
  | k :: r, i, h, m, hm => by
    simp only [chainB, Bool.and_eq_true, Bool.not_eq_true'] at h
    rcases List.mem_cons.1 hm with rfl | hm
    · exact h.1.2
    · exact chain_un r k h.2 m hm
/-- In any order from here on; S holds behind each operation while z has not come up. -/
def anyL (P : Program) (md : Region.Mode) (ops : Array Oper) (Q : Exit → Act → World → Prop) (S : World → Prop) (z : Nat) : Nat → Array Bool → Act → World → Prop
  | 0, l, a, w => Region.ready md ops l = [] ∧ Q .normal a w
  | n + 1, l, a, w => (Region.ready md ops l = [] → Q .normal a w) ∧
    ∀ i ∈ Region.ready md ops l, wpOp P ops Q i (fun a' w' => ((l.setIfInBounds i true).getD z true = false → S w') ∧ anyL P md ops Q S z n (l.setIfInBounds i true) a' w') a w
theorem anyL_any : ∀ (n : Nat) (l : Array Bool) (a : Act) (w : World), anyL P md ops Q S z n l a w → wpAny P md ops Q n l a w
  | 0, _, _, _, h => h
  | n + 1, _, _, _, h => ⟨h.1, fun i hi => wpOp_mono (fun a' w' h' => anyL_any n _ a' w' h'.2) (h.2 i hi)⟩
theorem region_L (z : Nat) {id : Nat} {a : Act} {w : World} (hm : P.follows .mixedOrders = true) (hS : S w.drew)
    (h : S w.drew → anyL P .any ops Q S z ops.size (Array.replicate ops.size false) a w.drew) : (Code.region id ops true).wp P Q a w :=
  wp_region_any hm (anyL_any _ _ _ _ (h hS))
theorem anyL_done {n : Nat} {l : Array Bool} {a : Act} {w : World} (hr : Region.ready md ops l = []) (h : Q .normal a w) : anyL P md ops Q S z n l a w := by
  cases n with
  | zero => exact ⟨hr, h⟩
  | succ n => exact ⟨fun _ => h, fun i hi => by rw [hr] at hi; cases hi⟩
theorem anyL_first {i : Nat} {oi : Oper} {v : Value} (c : List Nat) (hz : z ∈ c) (hi : ops[i]? = some oi) (hsel : ∀ (j : Nat) (o : Oper) cs b, ops[j]? = some o → o.op ≠ .select cs b)
    (hQ : ∀ c a w, Q (.panic c) (a.put oi.dst v) w → Q (.panic c) a w) : ∀ (n : Nat) (l : Array Bool) (a : Act) (w : World), chainB md ops l i c = true →
      (∀ j oj, ops[j]? = some oj → j ≠ i → l.getD j true = false → (∀ e ∈ oj.after, Region.binds md e = true → e.on ≠ i) → oi.apart ops oj = true) →
      i ∈ Region.ready md ops l → YieldsIf P ops S oi v a → S w → anyL P md ops Q S z n (l.setIfInBounds i true) (a.put oi.dst v) w → anyL P md ops Q S z (n + 1) l a w
  | 0, l, a, w, _, _, hr, hy, hS, H => by
    refine ⟨fun h => (by rw [h] at hr; cases hr), fun j hj => ?_⟩
    by_cases hji : j = i
    · subst hji; exact hy.wpOp hi hS ⟨fun _ => hS, H⟩
    · have hm := ready_mono hj hji
      rw [H.1] at hm
      cases hm
  | n + 1, l, a, w, hc, hfree, hr, hy, hS, H => by
    refine ⟨fun h => (by rw [h] at hr; cases hr), fun j hj => ?_⟩
    by_cases hji : j = i
    · subst hji; exact hy.wpOp hi hS ⟨fun _ => hS, H⟩
    · have h1 := H.2 j (ready_mono hj hji)
      obtain ⟨hun, oj, hoj, hall⟩ := mem_ready.1 hj
      have hiu := (mem_ready.1 hr).1
      have hjc := chain_away hj c i hiu hc
      have hc' := chain_set c i hjc hc
      have hno : ∀ e ∈ oj.after, Region.binds md e = true → e.on ≠ i := fun e he hb heq => by
        have x1 := hall e he hb
        rw [heq] at x1
        rcases Nat.lt_or_ge i l.size with h' | h'
        · simp [h'] at hiu x1; rw [hiu] at x1; cases x1
        · simp [Array.getElem?_eq_none h'] at x1
      have h2 := wpOp_putIf hoj (hfree j oj hoj hji hun hno) (fun cs b => hsel i oi cs b hi) (fun cs b => hsel j oj cs b hoj) hQ hy h1
      have hfree' : ∀ k ok, ops[k]? = some ok → k ≠ i → (l.setIfInBounds j true).getD k true = false → (∀ e ∈ ok.after, Region.binds md e = true → e.on ≠ i) → oi.apart ops ok = true := fun k ok hk hki hu hn => by
        refine hfree k ok hk hki ?_ hn
        by_cases hjk : j = k
        · subst hjk; exact hun
        · rw [getD_set_ne true hjk] at hu; exact hu
      have hzi : z ≠ i := fun e => by
        subst e
        exact chain_away hr c z hiu hc hz
      refine wpOp_mono (fun a' w' h3 => ?_) h2
      obtain ⟨y3, s3, k3⟩ := h3
      have s4 : S w' := s3 (by rw [Array.setIfInBounds_comm _ _ (Ne.symm hji), getD_set_ne true (Ne.symm hzi)]; exact chain_un c i hc' z hz)
      refine ⟨fun _ => s4, anyL_first c hz hi hsel hQ n _ a' w' hc' hfree' (ready_mono hr (Ne.symm hji)) y3 s4 ?_⟩
      rw [Array.setIfInBounds_comm _ _ hji]
      exact k3
/-- An operation that yields is taken first; where its value goes is said; c: the chain from it to z. -/
theorem takeL {i : Nat} {oi : Oper} {v : Value} {n : Nat} {l : Array Bool} {a : Act} {w : World} (c : List Nat) (d : Option Tmp) (hz : c.contains z = true) (hi : ops[i]? = some oi) (hd : oi.dst = d)
    (hc : chainB md ops l i c = true) (hs : Region.noSelect ops = true) (hf : Region.free md ops l i = true) (hr : (Region.ready md ops l).contains i = true)
    (hQ : ∀ c a w, Q (.panic c) (a.put d v) w → Q (.panic c) a w) (hw : Region.wanted oi (yielded ops a.tmps) = true) (hy : ∀ w, S w → (execOp a.eval oi).run P w = .ok (.value v) w) (hS : S w)
    (h : anyL P md ops Q S z n (l.setIfInBounds i true) (a.put d v) w) : anyL P md ops Q S z (n + 1) l a w := by
  subst hd
  exact anyL_first c (by simpa using hz) hi (Region.noSelect_spec hs) hQ n l a w hc (Region.free_spec hi hf) (by simpa using hr) (Or.inl ⟨hw, hy⟩) hS h
/-- Each of the operations rs comes up next. -/
def AllL (P : Program) (md : Region.Mode) (ops : Array Oper) (Q : Exit → Act → World → Prop) (S : World → Prop) (z : Nat) (n : Nat) (l : Array Bool) (a : Act) (w : World) (rs : List Nat) : Prop :=
  ∀ i ∈ rs, wpOp P ops Q i (fun a' w' => ((l.setIfInBounds i true).getD z true = false → S w') ∧ anyL P md ops Q S z n (l.setIfInBounds i true) a' w') a w
theorem AllL.nil {n : Nat} {l : Array Bool} {a : Act} {w : World} : AllL P md ops Q S z n l a w [] := fun _ h => by cases h
theorem AllL.cons {n : Nat} {l : Array Bool} {a : Act} {w : World} {i : Nat} {o : Oper} {rs : List Nat} (ho : ops[i]? = some o)
    (h : ∀ K : Act → World → Prop, Shut (∀ a w, S w → (S w → anyL P md ops Q S z n (l.setIfInBounds i true) a w) → K a w) → if Region.wanted o (yielded ops a.tmps) = true then Oper.wp P o a w K Q else K (a.put o.dst undef) w)
    (hs : AllL P md ops Q S z n l a w rs) : AllL P md ops Q S z n l a w (i :: rs) := fun j hj => by
  rcases List.mem_cons.1 hj with rfl | hj
  · exact wpOp_step ho (fun K hK => h K (fun a w hS hW => hK a w ⟨fun _ => hS, hW hS⟩))
  · exact hs j hj
/-- z itself. -/
theorem AllL.last {n : Nat} {l : Array Bool} {a : Act} {w : World} {o : Oper} (ho : ops[z]? = some o) (hl : (l.setIfInBounds z true).getD z true = true)
    (h : ∀ K : Act → World → Prop, Shut (∀ a w, anyL P md ops Q S z n (l.setIfInBounds z true) a w → K a w) → if Region.wanted o (yielded ops a.tmps) = true then Oper.wp P o a w K Q else K (a.put o.dst undef) w) : AllL P md ops Q S z n l a w [z] := fun j hj => by
  have : j = z := by simpa using hj
  subst this
  exact wpOp_step ho (fun K hK => h K (fun a w hW => hK a w ⟨fun h0 => (by rw [hl] at h0; cases h0), hW⟩))
theorem anyL_ready {rs : List Nat} {n : Nat} {l : Array Bool} {a : Act} {w : World} (hr : Region.ready md ops l = rs) (hne : rs ≠ []) (h : AllL P md ops Q S z n l a w rs) : anyL P md ops Q S z (n + 1) l a w :=
  ⟨fun h0 => absurd (hr ▸ h0) hne, hr ▸ h⟩
end
theorem skipH {P : Program} {md : Region.Mode} {ops : Array Oper} {Q : Exit → Act → World → Prop} {S : World → Prop} {i : Nat} {oi : Oper} {fuel : Nat} {listed : Array Bool} {a : Act} {w : World} (d : Option Tmp) (hi : ops[i]? = some oi) (hd : oi.dst = d)
    (hs : Region.noSelect ops = true) (hf : Region.free md ops listed i = true) (hr : (Region.ready md ops listed).contains i = true)
    (hQ : ∀ c a w, Q (.panic c) (a.put d undef) w → Q (.panic c) a w) (hw : Region.wanted oi (yielded ops a.tmps) = false) (hS : S w)
    (h : wpAnyH P md ops Q S fuel (listed.setIfInBounds i true) (a.put d undef) w) : wpAnyH P md ops Q S (fuel + 1) listed a w := by
  subst hd
  exact wpAnyH_take hi hs hf hr hQ (Or.inr ⟨hw, rfl⟩) hS h
theorem wpAnyH_less {P : Program} {md : Region.Mode} {ops : Array Oper} {Q : Exit → Act → World → Prop} {S S' : World → Prop} (hS : ∀ w, S' w → S w) : ∀ (n : Nat) (l : Array Bool) (a : Act) (w : World), wpAnyH P md ops Q S' n l a w → wpAnyH P md ops Q S n l a w
  | 0, _, _, _, h => h
  | n + 1, _, _, _, h => ⟨h.1, fun i hi => wpOp_mono (fun a' w' h' => ⟨hS _ h'.1, wpAnyH_less hS n _ a' w' h'.2⟩) (h.2 i hi)⟩
/-- One operation that yields. -/
theorem valV {P : Program} {o : Oper} {a : Act} {w : World} {K : Act → World → Prop} {Q : Exit → Act → World → Prop} (d : Option Tmp) (hd : o.dst = d) (v : Value) (hr : (execOp a.eval o).run P w = .ok (.value v) w) (h : K (a.put d v) w) : o.wp P a w K Q := by
  subst hd
  unfold Oper.wp
  rw [hr, Oper.upon_value]
  exact h
section
variable {P : Program} {ops : Array Oper} {Q : Exit → Act → World → Prop} {md : Region.Mode} {S : World → Prop} {z : Nat}
theorem anyL_pure {i : Nat} {oi : Oper} {v : Value} (hzi : z ≠ i) (hi : ops[i]? = some oi) (hsel : ∀ (j : Nat) (o : Oper) cs b, ops[j]? = some o → o.op ≠ .select cs b)
    (hQ : ∀ c a w, Q (.panic c) (a.put oi.dst v) w → Q (.panic c) a w) : ∀ (n : Nat) (l : Array Bool) (a : Act) (w : World),
      (∀ j oj, ops[j]? = some oj → j ≠ i → l.getD j true = false → (∀ e ∈ oj.after, Region.binds md e = true → e.on ≠ i) → oi.apart ops oj = true) →
      i ∈ Region.ready md ops l → YieldsIf P ops (fun _ => True) oi v a → (l.getD z true = false → S w) → anyL P md ops Q S z n (l.setIfInBounds i true) (a.put oi.dst v) w → anyL P md ops Q S z (n + 1) l a w
  | 0, l, a, w, _, hr, hy, hS, H => by
    refine ⟨fun h => (by rw [h] at hr; cases hr), fun j hj => ?_⟩
    by_cases hji : j = i
    · subst hji; exact hy.wpOp hi trivial ⟨fun h => hS (by rwa [getD_set_ne true (Ne.symm hzi)] at h), H⟩
    · have hm := ready_mono hj hji
      rw [H.1] at hm
      cases hm
  | n + 1, l, a, w, hfree, hr, hy, hS, H => by
    refine ⟨fun h => (by rw [h] at hr; cases hr), fun j hj => ?_⟩
    by_cases hji : j = i
    · subst hji; exact hy.wpOp hi trivial ⟨fun h => hS (by rwa [getD_set_ne true (Ne.symm hzi)] at h), H⟩
    · have h1 := H.2 j (ready_mono hj hji)
      obtain ⟨hun, oj, hoj, hall⟩ := mem_ready.1 hj
      have hiu := (mem_ready.1 hr).1
      have hno : ∀ e ∈ oj.after, Region.binds md e = true → e.on ≠ i := fun e he hb heq => by
        have x1 := hall e he hb
        rw [heq] at x1
        rcases Nat.lt_or_ge i l.size with h' | h'
        · simp [h'] at hiu x1; rw [hiu] at x1; cases x1
        · simp [Array.getElem?_eq_none h'] at x1
      have h2 := wpOp_putIf hoj (hfree j oj hoj hji hun hno) (fun cs b => hsel i oi cs b hi) (fun cs b => hsel j oj cs b hoj) hQ hy h1
      have hfree' : ∀ k ok, ops[k]? = some ok → k ≠ i → (l.setIfInBounds j true).getD k true = false → (∀ e ∈ ok.after, Region.binds md e = true → e.on ≠ i) → oi.apart ops ok = true := fun k ok hk hki hu hn => by
        refine hfree k ok hk hki ?_ hn
        by_cases hjk : j = k
        · subst hjk; exact hun
        · rw [getD_set_ne true hjk] at hu; exact hu
      refine wpOp_mono (fun a' w' h3 => ?_) h2
      obtain ⟨y3, s3, k3⟩ := h3
      have s4 : (l.setIfInBounds j true).getD z true = false → S w' := fun h => s3 (by rw [Array.setIfInBounds_comm _ _ (Ne.symm hji), getD_set_ne true (Ne.symm hzi)]; exact h)
      refine ⟨s4, anyL_pure hzi hi hsel hQ n _ a' w' hfree' (ready_mono hr (Ne.symm hji)) y3 s4 ?_⟩
      rw [Array.setIfInBounds_comm _ _ hji]
      exact k3
/-- An operation that yields in whatever world is taken first. -/
theorem takeP {i : Nat} {oi : Oper} {v : Value} {n : Nat} {l : Array Bool} {a : Act} {w : World} (d : Option Tmp) (hzi : (z == i) = false) (hi : ops[i]? = some oi) (hd : oi.dst = d)
    (hs : Region.noSelect ops = true) (hf : Region.free md ops l i = true) (hr : (Region.ready md ops l).contains i = true)
    (hQ : ∀ c a w, Q (.panic c) (a.put d v) w → Q (.panic c) a w) (hw : Region.wanted oi (yielded ops a.tmps) = true) (hy : ∀ w, (execOp a.eval oi).run P w = .ok (.value v) w) (hS : S w)
    (h : anyL P md ops Q S z n (l.setIfInBounds i true) (a.put d v) w) : anyL P md ops Q S z (n + 1) l a w := by
  subst hd
  exact anyL_pure (by simpa using hzi) hi (Region.noSelect_spec hs) hQ n l a w (Region.free_spec hi hf) (by simpa using hr) (Or.inl ⟨hw, fun w _ => hy w⟩) (fun _ => hS) h
/-- Behind z nothing need hold any more. -/
theorem AllL.free {i n : Nat} {l : Array Bool} {a : Act} {w : World} {o : Oper} (ho : ops[i]? = some o) (hl : (l.setIfInBounds i true).getD z true = true)
    (h : ∀ K : Act → World → Prop, Shut (∀ a w, anyL P md ops Q S z n (l.setIfInBounds i true) a w → K a w) → if Region.wanted o (yielded ops a.tmps) = true then Oper.wp P o a w K Q else K (a.put o.dst undef) w) : AllL P md ops Q S z n l a w [i] := fun j hj => by
  have : j = i := by simpa using hj
  subst this
  exact wpOp_step ho (fun K hK => h K (fun a w hW => hK a w ⟨fun h0 => (by rw [hl] at h0; cases h0), hW⟩))
end
end Go.Proofs.Ytlhamckpgijjmaa
namespace Go.Proofs.Ytlhamckpgijjmaa
open Go.RowKit
set_option linter.unusedVariables false

abbrev bC (b : Bt) : Array Value := #[.int .i64 b.n, .int .i64 b.nd, .int .i64 b.lf]
abbrev bV (b : Bt) : Value := .agg (bC b)
abbrev rC (p a : Bt) (v : Value) : Array Value := #[.int .i64 p.n, .int .i64 p.nd, .int .i64 p.lf, .int .i64 a.n, .int .i64 a.nd, .int .i64 a.lf, v]
abbrev rV (p a : Bt) (v : Value) : Value := .agg (rC p a v)
theorem info_bt (b : Bt) : (Try.prog.info? 38).map (·.size) = some (bC b).size := by kernel_rfl
theorem info_rg (p a : Bt) (v : Value) : (Try.prog.info? 40).map (·.size) = some (rC p a v).size := by kernel_rfl
theorem ok_foldB (p : Prop) [Decidable p] (b : Bool) (w : World) : (if p then Result.ok b w else Result.ok false w) = Result.ok (decide p && b) w := by
  by_cases h : p <;> simp [h]

set_option maxHeartbeats 400000 in
theorem bless_any (a b : Bt) (w : World) : Calls Try.prog 61 #[bV a, bV b] w fun e w' => e = .returned (.bool (lt3 a b)) ∧ Below w.heap.size w w' := by
  obtain ⟨a0, a1, a2⟩ := a
  obtain ⟨b0, b1, b2⟩ := b
  by_cases c : a0 = b0
  · by_cases d : a1 = b1
    · have hc : (a0 != b0) = false := by simp [c]
      have hd : (a1 != b1) = false := by simp [d]
      have HF : Hid (decide (a2 < b2) = lt3 ⟨a0, a1, a2⟩ ⟨b0, b1, b2⟩) := by show _ = _; unfold lt3; rw [decide_eq_decide]; dsimp only; omega
      clear c d
      go_enter Try.func61, Try.ntmps61
      go_wp2_with fail
      go_ret
      exact ⟨ret_bool HF.out, by repeat (first | exact Below.refl _ _ | refine ab_alloc ?_ _)⟩
    · have hc : (a0 != b0) = false := by simp [c]
      have hd : (a1 != b1) = true := by simp [d]
      have HF : Hid (decide (a1 < b1) = lt3 ⟨a0, a1, a2⟩ ⟨b0, b1, b2⟩) := by show _ = _; unfold lt3; rw [decide_eq_decide]; dsimp only; omega
      clear c d
      go_enter Try.func61, Try.ntmps61
      go_wp2_with fail
      go_ret
      exact ⟨ret_bool HF.out, by repeat (first | exact Below.refl _ _ | refine ab_alloc ?_ _)⟩
  · have hc : (a0 != b0) = true := by simp [c]
    have HF : Hid (decide (a0 < b0) = lt3 ⟨a0, a1, a2⟩ ⟨b0, b1, b2⟩) := by show _ = _; unfold lt3; rw [decide_eq_decide]; dsimp only; omega
    clear c
    go_enter Try.func61, Try.ntmps61
    go_wp2_with fail
    go_ret
    exact ⟨ret_bool HF.out, by repeat (first | exact Below.refl _ _ | refine ab_alloc ?_ _)⟩
set_option maxHeartbeats 400000 in
theorem rbless_any (a b : Bt) (w : World) : Calls Try.prog 13 #[bV a, bV b] w fun e w' => e = .returned (.bool (lt3 a b)) ∧ Below w.heap.size w w' := by
  obtain ⟨a0, a1, a2⟩ := a
  obtain ⟨b0, b1, b2⟩ := b
  by_cases c : a0 = b0
  · by_cases d : a1 = b1
    · have hc : (a0 != b0) = false := by simp [c]
      have hd : (a1 != b1) = false := by simp [d]
      have HF : Hid (decide (a2 < b2) = lt3 ⟨a0, a1, a2⟩ ⟨b0, b1, b2⟩) := by show _ = _; unfold lt3; rw [decide_eq_decide]; dsimp only; omega
      clear c d
      go_enter Try.func13, Try.ntmps13
      go_wp2_with fail
      go_ret
      exact ⟨ret_bool HF.out, by repeat (first | exact Below.refl _ _ | refine ab_alloc ?_ _)⟩
    · have hc : (a0 != b0) = false := by simp [c]
      have hd : (a1 != b1) = true := by simp [d]
      have HF : Hid (decide (a1 < b1) = lt3 ⟨a0, a1, a2⟩ ⟨b0, b1, b2⟩) := by show _ = _; unfold lt3; rw [decide_eq_decide]; dsimp only; omega
      clear c d
      go_enter Try.func13, Try.ntmps13
      go_wp2_with fail
      go_ret
      exact ⟨ret_bool HF.out, by repeat (first | exact Below.refl _ _ | refine ab_alloc ?_ _)⟩
  · have hc : (a0 != b0) = true := by simp [c]
    have HF : Hid (decide (a0 < b0) = lt3 ⟨a0, a1, a2⟩ ⟨b0, b1, b2⟩) := by show _ = _; unfold lt3; rw [decide_eq_decide]; dsimp only; omega
    clear c
    go_enter Try.func13, Try.ntmps13
    go_wp2_with fail
    go_ret
    exact ⟨ret_bool HF.out, by repeat (first | exact Below.refl _ _ | refine ab_alloc ?_ _)⟩
theorem and3 (x y z : Int) : (decide (x = 0) && (decide (y = 0) && decide (z = 0))) = noB ⟨x, y, z⟩ := by
  unfold noB
  rw [Bool.eq_iff_iff]
  simp
theorem wh_1 {b : Bt} (h : ¬ 0 ≤ b.n) : whB b = false := by unfold whB; exact decide_eq_false (by omega)
theorem wh_2 {b : Bt} (h : ¬ 0 ≤ b.nd) : whB b = false := by unfold whB; exact decide_eq_false (by omega)
theorem wh_3 {b : Bt} (h0 : 0 ≤ b.n) (h1 : 0 ≤ b.nd) : decide (0 ≤ b.lf) = whB b := by unfold whB; rw [decide_eq_decide]; omega
set_option maxHeartbeats 400000 in
theorem whole_any (b : Bt) (w : World) : Calls Try.prog 71 #[bV b] w fun e w' => e = .returned (.bool (whB b)) ∧ Below w.heap.size w w' := by
  by_cases c : 0 ≤ b.n
  · by_cases d : 0 ≤ b.nd
    · have HF : Hid (decide (0 ≤ b.lf) = whB b) := wh_3 c d
      go_enter Try.func71, Try.ntmps71
      go_wp2_with fail
      go_ret
      exact ⟨ret_bool HF.out, ab_alloc (Below.refl _ _) _⟩
    · have HF : Hid (whB b = false) := wh_2 d
      go_enter Try.func71, Try.ntmps71
      go_wp2_with fail
      go_ret
      exact ⟨ret_bool HF.out.symm, ab_alloc (Below.refl _ _) _⟩
  · have HF : Hid (whB b = false) := wh_1 c
    go_enter Try.func71, Try.ntmps71
    go_wp2_with fail
    go_ret
    exact ⟨ret_bool HF.out.symm, ab_alloc (Below.refl _ _) _⟩
set_option maxHeartbeats 400000 in
theorem sound_any (b : Bt) (w : World) : Calls Try.prog 31 #[bV b] w fun e w' => e = .returned (.bool (whB b)) ∧ Below w.heap.size w w' := by
  by_cases c : 0 ≤ b.n
  · by_cases d : 0 ≤ b.nd
    · have HF : Hid (decide (0 ≤ b.lf) = whB b) := wh_3 c d
      go_enter Try.func31, Try.ntmps31
      go_wp2_with fail
      go_ret
      exact ⟨ret_bool HF.out, ab_alloc (Below.refl _ _) _⟩
    · have HF : Hid (whB b = false) := wh_2 d
      go_enter Try.func31, Try.ntmps31
      go_wp2_with fail
      go_ret
      exact ⟨ret_bool HF.out.symm, ab_alloc (Below.refl _ _) _⟩
  · have HF : Hid (whB b = false) := wh_1 c
    go_enter Try.func31, Try.ntmps31
    go_wp2_with fail
    go_ret
    exact ⟨ret_bool HF.out.symm, ab_alloc (Below.refl _ _) _⟩
section
attribute [local go_sem] ok_foldB
set_option maxHeartbeats 400000 in
theorem isNone_any (b : Bt) (w : World) : Calls Try.prog 72 #[bV b] w fun e w' => e = .returned (.bool (noB b)) ∧ Below w.heap.size w w' := by
  go_enter Try.func72, Try.ntmps72
  go_wp2_with fail
  go_ret
  exact ⟨ret_bool (and3 _ _ _), ab_alloc (Below.refl _ _) _⟩
end
/-- Three, seven cells of a block, in every world in which nothing of it has turned. -/
theorem cells3 {W : World} {g : Nat} {b : Bt} {t : TypeId} (h : Blk W g (bC b) t) : (∀ V, Below W.heap.size W V → V.cell? ⟨g, 0, none⟩ = some (.int .i64 b.n)) ∧ (∀ V, Below W.heap.size W V → V.cell? ⟨g, 1, none⟩ = some (.int .i64 b.nd)) ∧ (∀ V, Below W.heap.size W V → V.cell? ⟨g, 2, none⟩ = some (.int .i64 b.lf)) :=
  ⟨fun V hb => (h.keep hb).at rfl, fun V hb => (h.keep hb).at rfl, fun V hb => (h.keep hb).at rfl⟩
theorem cells7 {W : World} {g : Nat} {p a : Bt} {v : Value} {t : TypeId} (h : Blk W g (rC p a v) t) : (∀ V, Below W.heap.size W V → V.cell? ⟨g, 0, none⟩ = some (.int .i64 p.n)) ∧ (∀ V, Below W.heap.size W V → V.cell? ⟨g, 1, none⟩ = some (.int .i64 p.nd)) ∧ (∀ V, Below W.heap.size W V → V.cell? ⟨g, 2, none⟩ = some (.int .i64 p.lf)) ∧
    (∀ V, Below W.heap.size W V → V.cell? ⟨g, 3, none⟩ = some (.int .i64 a.n)) ∧ (∀ V, Below W.heap.size W V → V.cell? ⟨g, 4, none⟩ = some (.int .i64 a.nd)) ∧ (∀ V, Below W.heap.size W V → V.cell? ⟨g, 5, none⟩ = some (.int .i64 a.lf)) ∧ (∀ V, Below W.heap.size W V → V.cell? ⟨g, 6, none⟩ = some v) :=
  ⟨fun V hb => (h.keep hb).at rfl, fun V hb => (h.keep hb).at rfl, fun V hb => (h.keep hb).at rfl, fun V hb => (h.keep hb).at rfl, fun V hb => (h.keep hb).at rfl, fun V hb => (h.keep hb).at rfl, fun V hb => (h.keep hb).at rfl⟩
set_option maxHeartbeats 400000 in
theorem asks_any (b : Bt) (w : World) : Calls Try.prog 60 #[bV b] w fun e w' => e = .returned (.bool (asB b)) ∧ Below w.heap.size w w' := by
  go_enter Try.func60, Try.ntmps60
  go_upto_region 1 with fail
  obtain ⟨A, hAe, hB, hw⟩ := blk1 w (bC b) 38
  rw [hAe]
  obtain ⟨c0, c1, c2⟩ := cells3 hB
  have hbv := Below.refl A.heap.size A
  clear hAe hB
  go_wp2_with fail
  refine (whole_any b _).mono ?_
  rintro e W1 ⟨rfl, b1⟩
  have hbv := ab_trans hbv b1
  cases h1 : whB b
  · have HF : Hid (asB b = false) := by show _ = _; unfold asB; rw [h1]; rfl
    go_wp2_with fail
    go_ret
    exact ⟨ret_bool HF.out.symm, ab_trans hw hbv⟩
  · have HF : Hid ((!noB b) = asB b) := by show _ = _; unfold asB; rw [h1]; rfl
    go_wp2_with fail
    refine (isNone_any b _).mono ?_
    rintro e W2 ⟨rfl, b2⟩
    have hbv := ab_trans hbv b2
    go_wp2_with fail
    go_ret
    exact ⟨ret_bool HF.out, ab_trans hw hbv⟩
def nxB (b : Bt) (d f : Int) : Bt := ⟨wrap64 (b.n + 1), d, f⟩
theorem gd_1 {p a : Bt} {n : Nat} (h : whB p = false) : gdN p a n = false := by unfold gdN; rw [h]; rfl
theorem gd_2 {p a : Bt} {n : Nat} (h : whB a = false) : gdN p a n = false := by unfold gdN; rw [h]; simp
theorem gd_3 {p a : Bt} {n : Nat} (h : lt3 p a = true) : gdN p a n = false := by unfold gdN; rw [h]; simp
theorem gd_4 {p a : Bt} {n : Nat} (h1 : whB p = true) (h2 : whB a = true) (h3 : lt3 p a = false) (h4 : noB a = true) : decide (n = 0) = gdN p a n := by unfold gdN; rw [h1, h2, h3, h4]; simp
theorem gd_5 {p a : Bt} {n : Nat} (h1 : whB p = true) (h2 : whB a = true) (h3 : lt3 p a = false) (h4 : noB a = false) : decide (n ≤ 32) = gdN p a n := by unfold gdN; rw [h1, h2, h3, h4]; simp
set_option maxHeartbeats 400000 in
theorem good9_any (p a : Bt) (q : Option Addr) (n c : Nat) (w : World) : Calls Try.prog 55 #[rV p a (.slice q n c)] w fun e w' => e = .returned (.bool (gdN p a n)) ∧ Below w.heap.size w w' := by
  go_enter Try.func55, Try.ntmps55
  go_upto_region 1 with fail
  obtain ⟨A, hAe, hB, hw⟩ := blk1 w (rC p a (.slice q n c)) 40
  rw [hAe]
  obtain ⟨c0, c1, c2, c3, c4, c5, c6⟩ := cells7 hB
  have hbv := Below.refl A.heap.size A
  clear hAe hB
  go_wp2_with fail
  refine (whole_any p _).mono ?_
  rintro e W1 ⟨rfl, b1⟩
  have hbv := ab_trans hbv b1
  cases h1 : whB p
  · have HF : Hid (gdN p a n = false) := gd_1 h1
    go_wp2_with fail
    go_ret
    exact ⟨ret_bool HF.out.symm, ab_trans hw hbv⟩
  · go_wp2_with fail
    refine (whole_any a _).mono ?_
    rintro e W2 ⟨rfl, b2⟩
    have hbv := ab_trans hbv b2
    cases h2 : whB a
    · have HF : Hid (gdN p a n = false) := gd_2 h2
      go_wp2_with fail
      go_ret
      exact ⟨ret_bool HF.out.symm, ab_trans hw hbv⟩
    · go_wp2_with fail
      refine (bless_any p a _).mono ?_
      rintro e W3 ⟨rfl, b3⟩
      have hbv := ab_trans hbv b3
      cases h3 : lt3 p a
      · go_wp2_with fail
        refine (isNone_any a _).mono ?_
        rintro e W4 ⟨rfl, b4⟩
        have hbv := ab_trans hbv b4
        cases h4 : noB a
        · have HF : Hid (decide (n ≤ 32) = gdN p a n) := gd_5 h1 h2 h3 h4
          go_wp2_with fail
          go_ret
          refine ⟨ret_bool (Eq.trans ?_ HF.out), ab_trans hw hbv⟩
          rw [decide_eq_decide]; omega
        · have HF : Hid (decide (n = 0) = gdN p a n) := gd_4 h1 h2 h3 h4
          go_wp2_with fail
          go_ret
          refine ⟨ret_bool (Eq.trans ?_ HF.out), ab_trans hw hbv⟩
          first | (rw [decide_eq_decide]; omega) | (rw [Bool.eq_iff_iff]; simp)
      · have HF : Hid (gdN p a n = false) := gd_3 h3
        go_wp2_with fail
        go_ret
        exact ⟨ret_bool HF.out.symm, ab_trans hw hbv⟩
end Go.Proofs.Ytlhamckpgijjmaa
namespace Go.Proofs.Ytlhamckpgijjmaa
open Go.RowKit
set_option linter.unusedVariables false

theorem own_nil (W : World) (base : Nat) : W.ownsRow base 3 1 (.slice none 0 0) 0 (ints []) := ⟨rfl, .inl ⟨rfl, rfl⟩⟩
set_option maxHeartbeats 400000 in
theorem bclone_any (v : Value) (l : List Int) (w : World) (hv : Is w v l) (hl : l.length ≤ 100000) : Calls Try.prog 56 #[v] w fun e w' => ∃ v', e = .returned v' ∧ Io w' w.heap.size v' l ∧ Below w.heap.size w w' := by
  go_enter Try.func56, Try.ntmps56
  go_upto_region 1 with fail
  refine wp_region_lit ?_
  refine valS rfl v rfl ?_
  refine app_i w rfl rfl (l := []) (m := l) rfl (own_nil _ _) rfl hv rfl (by omega) (Below.refl _ _) ?_
  intro v' W' hown hnil hb hg hat
  go_wp2_with fail
  go_ret
  exact ⟨_, rfl, io_of hown, hb⟩
set_option maxHeartbeats 400000 in
theorem ballotOf_any (v : Value) (l : List Int) (w : World) (hv : Is w v l) (h2 : 3 ≤ l.length) :
    Calls Try.prog 54 #[v] w fun e w' => e = .returned (bV ⟨l.getD 0 0, l.getD 1 0, l.getD 2 0⟩) ∧ Below w.heap.size w w' := by
  obtain ⟨q, cap, e⟩ := hv.form
  subst e
  obtain ⟨g, off, rfl, hg, hr⟩ := hv.at (by omega)
  have hc := hv.len
  have d0 := hr 0 _ (show l[0]? = some (l.getD 0 0) by rw [List.getD_eq_getElem?_getD, List.getElem?_eq_getElem (by omega)]; rfl)
  have d1 := hr 1 _ (show l[1]? = some (l.getD 1 0) by rw [List.getD_eq_getElem?_getD, List.getElem?_eq_getElem (by omega)]; rfl)
  have d2 := hr 2 _ (show l[2]? = some (l.getD 2 0) by rw [List.getD_eq_getElem?_getD, List.getElem?_eq_getElem (by omega)]; rfl)
  generalize l.getD 0 0 = x0 at *
  generalize l.getD 1 0 = x1 at *
  generalize l.getD 2 0 = x2 at *
  generalize l.length = n at *
  clear hv hr
  go_enter Try.func54, Try.ntmps54
  go_upto_region 1 with fail
  obtain ⟨A, hAe, hB, hw⟩ := blk1 w #[.int .i64 0, .int .i64 0, .int .i64 0] 38
  rw [hAe]
  have e0 : A.cell? ⟨g, off, none⟩ = some (.int .i64 x0) := keep_cell hw d0 hg
  have e1 : A.cell? ⟨g, off + 1, none⟩ = some (.int .i64 x1) := keep_cell hw d1 hg
  have e2 : A.cell? ⟨g, off + 2, none⟩ = some (.int .i64 x2) := keep_cell hw d2 hg
  obtain ⟨y0, y1, y2⟩ := cells3 (b := zB) hB
  have f0 := hB.frozen 0
  have f1 := hB.frozen 1
  have f2 := hB.frozen 2
  have hbv := Below.refl A.heap.size A
  have hlt := hB.lt
  clear hAe d0 d1 d2 hg
  go_region
  go_wp2_with fail
  have hB3 := ((hB.drew.set 0 (.int .i64 x0)).set 1 (.int .i64 x1)).set 2 (.int .i64 x2)
  have C3 := ((chg_set A.drew w.heap.size 0 (.int .i64 x0)).trans (chg_set _ w.heap.size 1 (.int .i64 x1))).trans (chg_set _ w.heap.size 2 (.int .i64 x2))
  exact bodyPost_ret (results_cell_row rfl _ _ _ 38 _ (0, 0) _ rfl hB3 Try.underlying38 rfl (info_bt ⟨x0, x1, x2⟩)) rfl ⟨rfl, ab_chg (ab_drew hw) C3 (Nat.le_refl _)⟩
theorem gd_0 {p a : Bt} {n : Nat} (h : ¬ n ≤ 32) : gdN p a n = false := by
  unfold gdN
  rw [show decide (n = 0) = false from decide_eq_false (by omega), show decide (n ≤ 32) = false from decide_eq_false h]
  simp
theorem ne3 (a : Bt) : (!(decide (a.n = 0) && (decide (a.nd = 0) && decide (a.lf = 0)))) = !noB a := by rw [and3]
theorem gd_6 {p a : Bt} {n : Nat} (h1 : whB p = true) (h2 : whB a = true) (h3 : lt3 p a = false) (h4 : n ≤ 32) (h5 : noB a = false) : gdN p a n = true := by unfold gdN; rw [h1, h2, h3, h5]; simpa using h4
section
attribute [local go_sem] ok_foldB
set_option maxHeartbeats 400000 in
theorem rgood_any (p a : Bt) (q : Option Addr) (n c : Nat) (w : World) : Calls Try.prog 14 #[rV p a (.slice q n c)] w fun e w' => e = .returned (.bool (gdN p a n)) ∧ Below w.heap.size w w' := by
  go_enter Try.func14, Try.ntmps14
  go_upto_region 1 with fail
  obtain ⟨A, hAe, hB, hw⟩ := blk1 w (rC p a (.slice q n c)) 40
  rw [hAe]
  obtain ⟨c0, c1, c2, c3, c4, c5, c6⟩ := cells7 hB
  have hbv := Below.refl A.heap.size A
  clear hAe hB
  go_wp2_with fail
  refine (sound_any p _).mono ?_
  rintro e W1 ⟨rfl, b1⟩
  have hbv := ab_trans hbv b1
  cases h1 : whB p
  · have HF : Hid (gdN p a n = false) := gd_1 h1
    go_wp2_with fail
    go_ret
    exact ⟨ret_bool HF.out.symm, ab_trans hw hbv⟩
  · go_wp2_with fail
    refine (sound_any a _).mono ?_
    rintro e W2 ⟨rfl, b2⟩
    have hbv := ab_trans hbv b2
    cases h2 : whB a
    · have HF : Hid (gdN p a n = false) := gd_2 h2
      go_wp2_with fail
      go_ret
      exact ⟨ret_bool HF.out.symm, ab_trans hw hbv⟩
    · go_wp2_with fail
      refine (rbless_any p a _).mono ?_
      rintro e W3 ⟨rfl, b3⟩
      have hbv := ab_trans hbv b3
      cases h3 : lt3 p a
      · by_cases h5 : n ≤ 32
        · cases h4 : noB a
          · have HF : Hid (gdN p a n = true) := gd_6 h1 h2 h3 h5 h4
            have HN := and3 a.n a.nd a.lf
            rw [h4] at HN
            have h6 : ((n : Int) ≤ 32) := by omega
            go_wp2_with fail
            go_ret
            exact ⟨ret_bool HF.out.symm, ab_trans hw hbv⟩
          · have HF : Hid (decide (n = 0) = gdN p a n) := gd_4 h1 h2 h3 h4
            obtain rfl := noB_iff.1 h4
            have h6 : ((n : Int) ≤ 32) := by omega
            go_wp2_with fail
            go_ret
            refine ⟨ret_bool (Eq.trans ?_ HF.out), ab_trans hw hbv⟩
            first | (rw [decide_eq_decide]; omega) | (rw [Bool.eq_iff_iff]; simp)
        · have HF : Hid (gdN p a n = false) := gd_0 h5
          have h6 : ¬ ((n : Int) ≤ 32) := by omega
          go_wp2_with fail
          go_ret
          exact ⟨ret_bool HF.out.symm, ab_trans hw hbv⟩
      · have HF : Hid (gdN p a n = false) := gd_3 h3
        go_wp2_with fail
        go_ret
        exact ⟨ret_bool HF.out.symm, ab_trans hw hbv⟩
end
end Go.Proofs.Ytlhamckpgijjmaa
