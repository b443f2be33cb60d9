/-
  A map of texts to numbers that counts, in memory of the call's own.
-/
import Derived.Test.YteililgfjnoabaaPoL
import Derived.Maps.OwnSet
import Derived.Maps.OwnOps
import Derived.StringKeys
namespace Go.Proofs.Yteililgfjnoabaa
open Go.RowKit Go.Maps
set_option linter.unusedVariables false
set_option maxRecDepth 100000

/-- The key of a text. -/
def ky (m : List Nat) : Lit := .string (strB m).data.toList
theorem ky_ne {m m' : List Nat} (hm : Byt m) (hm' : Byt m') (h : m' ≠ m) : ky m' ≠ ky m := by
  intro e
  unfold ky at e
  injection e with e
  apply h
  apply strB_inj hm' hm
  apply ByteArray.ext
  exact Array.toList_inj.1 e
theorem law8 : Keyed Try.prog 9 := string_keyed Try.underlying9
theorem zeroI8 (w : World) : (zeroValue 3).run Try.prog w = .ok (.int .i64 0) w := by kernel_rfl
theorem key8 (m : List Nat) (h : m.length ≤ 9223372036854775807) : keyOf Try.prog 9 (.string (strB m)) = some (ky m) :=
  Go.WideMaps.keyOf_string_mk Try.underlying9 (by rw [strB_len]; exact h)
/-- Every count is at most N; those of l are at least one. -/
def Ct (W : World) (b N : Nat) (l : List (List Nat)) : Prop := ∃ D : DataW Unit, W.ownsMap Try.prog 9 (plainElem Try.prog 3) b N D ∧ ∀ m, Byt m → ∃ c : Nat, D.atKey (ky m) (.lit (.int .i64 0)) = .lit (.int .i64 (c : Int)) ∧ c ≤ N ∧ (m ∈ l → 1 ≤ c)
theorem Ct.lt {W : World} {b N : Nat} {l : List (List Nat)} (h : Ct W b N l) : b < W.heap.size := by
  obtain ⟨D, h1, -⟩ := h
  exact h1.lt
theorem Ct.at {W W' : World} {b N : Nat} {l : List (List Nat)} (h : Ct W b N l) (he : W'.heap[b]? = W.heap[b]?) : Ct W' b N l := by
  obtain ⟨D, ⟨es, clock, hb, F, hs, hD⟩, h2⟩ := h
  exact ⟨D, ⟨es, clock, he.trans hb, F, hs, hD⟩, h2⟩
theorem Ct.keep {W W' : World} {b N : Nat} {l : List (List Nat)} (h : Ct W b N l) (hb : Below W.heap.size W W') : Ct W' b N l := h.at (hb.block b h.lt)
theorem Ct.isMap {W : World} {b N : Nat} {l : List (List Nat)} (h : Ct W b N l) : ∃ es clock, W.heap[b]? = some (.map es clock) := by
  obtain ⟨D, ⟨es, clock, hb, F, hs, hD⟩, h2⟩ := h
  exact ⟨es, clock, hb⟩
theorem Ct.less {W : World} {b N N' : Nat} {l l' : List (List Nat)} (h : Ct W b N l) (hN : N ≤ N') (hl : ∀ m ∈ l', m ∈ l) : Ct W b N' l' := by
  obtain ⟨D, h1, h2⟩ := h
  refine ⟨D, h1.mono hN, fun m hm => ?_⟩
  obtain ⟨c, e, hc, h3⟩ := h2 m hm
  exact ⟨c, e, by omega, fun h => h3 (hl m h)⟩
theorem ct_new (w : World) : Ct (w.alloc (.map #[] 0)) w.heap.size 0 [] := by
  refine ⟨.map [], World.ownsMap_made w _ _ _, fun m _ => ⟨0, rfl, Nat.le_refl _, fun h => by cases h⟩⟩
theorem Ct.look {w : World} {b N : Nat} {l : List (List Nat)} {m : List Nat} (h : Ct w b N l) (hm : Byt m) (hl : m.length ≤ 9223372036854775807) :
    ∃ c : Nat, (Instr.lookup 46 (.map (some b)) (.string (strB m)) false).run Try.prog w = .ok (.int .i64 (c : Int)) w ∧ c ≤ N ∧ (m ∈ l → 1 ≤ c) := by
  obtain ⟨D, h1, h2⟩ := h
  obtain ⟨c, hrun, hat, -⟩ := h1.lookup_int law8 Try.underlying46 Try.underlying3 (zeroI8 _) (key8 m hl)
  obtain ⟨c', e, hc, h3⟩ := h2 m hm
  have : c = (c' : Int) := by rw [hat] at e; injection e with e; injection e
  subst this
  exact ⟨c', hrun, hc, h3⟩
/-- One more of m. -/
theorem Ct.put {w : World} {b N : Nat} {l : List (List Nat)} {m : List Nat} (h : Ct w b N l) (hm : Byt m) (hl : m.length ≤ 9223372036854775807) (hN : N ≤ 4000000) :
    ∃ (c : Nat) (w' : World), (Instr.lookup 46 (.map (some b)) (.string (strB m)) false).run Try.prog w = .ok (.int .i64 (c : Int)) w ∧ (Instr.mapUpdate 46 (.map (some b)) (.string (strB m)) (.int .i64 ((c : Int) + 1))).run Try.prog w = .ok () w' ∧ c ≤ N ∧ Ct w' b (N + 1) (m :: l) ∧ w.grownBy w' (some b) := by
  obtain ⟨c, hrun, hc, -⟩ := h.look hm hl
  obtain ⟨D, h1, h2⟩ := h
  obtain ⟨c', e', hc', -⟩ := h2 m hm
  obtain ⟨w', hup, h3, h4⟩ := h1.update (e := 3) law8 Try.underlying46 (by unfold maxLen; omega) (key8 m hl) (plainElem_int (H := Unit) (a := (c : Int) + 1) Try.underlying3 (WalkArith.wf_i64 (by omega)))
  refine ⟨c, w', hrun, hup, hc, ⟨_, h3, fun x hx => ?_⟩, h4⟩
  by_cases hxm : x = m
  · subst hxm
    exact ⟨c + 1, by rw [atKey_put_same h1.isMap (by trivial)]; congr 2, by omega, fun _ => by omega⟩
  · obtain ⟨y, ey, hy, h5⟩ := h2 x hx
    refine ⟨y, by rw [atKey_put_other (ky_ne hm hx hxm)]; exact ey, by omega, fun hmem => ?_⟩
    rcases List.mem_cons.1 hmem with e | e
    · exact absurd e hxm
    · exact h5 e
/-- The map stays while the post turns, and the post while the map does. -/
theorem Ct.mv {W W' : World} {base b mb N : Nat} {v v' : Value} {S : PS} {l : List (List Nat)} (h : Ct W mb N l) (hP : Pt W base b v S) (m : Mv b W W' v v') : Ct W' mb N l := by
  obtain ⟨es, clock, hb⟩ := h.isMap
  refine h.at (m.other mb h.lt (fun e => ?_) (fun e => ?_))
  · have h1 := hP.blk
    unfold Blk at h1
    rw [← e, hb] at h1
    cases h1
  · rcases hP.own.2 with ⟨h2, _⟩ | ⟨g2, cap2, cur2, h2, _, hg2, _⟩
    · rw [h2] at e; cases e
    · rw [h2] at e
      have e1 : g2 = mb := by simpa [Value.ownBlock] using e
      subst e1
      rw [hb] at hg2
      cases hg2
theorem blk_map {W W' : World} {d mb N : Nat} {l : List (List Nat)} {xs : Array Value} {t : TypeId} (h : Blk W d xs t) (hC : Ct W mb N l) (hg : W.grownBy W' (some mb)) : Blk W' d xs t := by
  obtain ⟨es, clock, hb⟩ := hC.isMap
  refine blk_grownT h hg (fun e => ?_)
  cases e
  unfold Blk at h
  rw [hb] at h
  cases h
theorem Pt.map {W W' : World} {base b mb N : Nat} {v : Value} {S : PS} {l : List (List Nat)} (h : Pt W base b v S) (hC : Ct W mb N l) (hg : W.grownBy W' (some mb)) : Pt W' base b v S := by
  refine ⟨h.ge, blk_map h.blk hC hg, own_at h.own fun g hgv => ?_, h.max, h.bl, h.bt, h.byt⟩
  refine hg.block g (h.own.lt g hgv).2 (fun e => ?_)
  cases e
  obtain ⟨es, clock, hb⟩ := hC.isMap
  rcases h.own.2 with ⟨h2, _⟩ | ⟨g2, cap2, cur2, h2, _, hg2, _⟩
  · rw [h2] at hgv; cases hgv
  · rw [h2] at hgv
    have e1 : g2 = mb := by simpa [Value.ownBlock] using hgv
    subst e1
    rw [hb] at hg2
    cases hg2
theorem map_below {W W' : World} {A mb : Nat} (hg : W.grownBy W' (some mb)) (hA : A ≤ mb) (hs : A ≤ W.heap.size) : Below A W W' :=
  (Below.refl _ _).grown hg hs (fun r hr => by cases hr; exact hA)
/-- What a post holds and counts, with no count that goes round. -/
theorem put1_count (l : List (List Nat)) (a t : Nat) (m : List Nat) (ha : a ≤ 4000000) : ∃ (l' : List (List Nat)) (a' : Nat), put1 ⟨l, (a : Int), (t : Int)⟩ m = ⟨l', (a' : Int), (t : Int)⟩ ∧ l'.length + a' = l.length + a + 1 ∧ ∀ x ∈ l', x ∈ l ∨ x = m := by
  unfold put1
  by_cases h : l.length < 4096
  · rw [if_pos h]
    exact ⟨l ++ [m], a, rfl, by simp; omega, fun x hx => by simpa using hx⟩
  · rw [if_neg h]
    exact ⟨l, a + 1, by rw [inc_nat a (by omega)], by omega, fun x hx => .inl hx⟩
theorem puts_count (ms : List (List Nat)) : ∀ (l : List (List Nat)) (a t : Nat), a + ms.length ≤ 4000000 → ∃ (l' : List (List Nat)) (a' : Nat), puts ⟨l, (a : Int), (t : Int)⟩ ms = ⟨l', (a' : Int), (t : Int)⟩ ∧ l'.length + a' = l.length + a + ms.length ∧ (∀ x ∈ l', x ∈ l ∨ x ∈ ms) ∧ a' ≤ a + ms.length := by
  induction ms with
  | nil => intro l a t _; exact ⟨l, a, rfl, by simp, fun x hx => .inl hx, by simp⟩
  | cons m r ih =>
    intro l a t h
    rw [List.length_cons] at h
    obtain ⟨l1, a1, e1, h1, h2⟩ := put1_count l a t m (by omega)
    have ha1 : a1 ≤ a + 1 := by
      unfold put1 at e1
      split at e1
      · injection e1 with _ e1; have := Int.ofNat_inj.1 e1; omega
      · rw [inc_nat a (by omega)] at e1; injection e1 with _ e1; have := Int.ofNat_inj.1 e1; omega
    obtain ⟨l2, a2, e2, h3, h4, h5⟩ := ih l1 a1 t (by omega)
    refine ⟨l2, a2, ?_, by rw [List.length_cons]; omega, fun x hx => ?_, by rw [List.length_cons]; omega⟩
    · show puts (put1 _ m) r = _
      rw [e1, e2]
    · rcases h4 x hx with h | h
      · rcases h2 x h with h | h
        · exact .inl h
        · exact .inr (by simp [h])
      · exact .inr (by simp [h])
end Go.Proofs.Yteililgfjnoabaa
