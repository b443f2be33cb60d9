/-
  A post and the document's one side by side; copies of what is handed in.
-/
import Derived.Test.YteililgfjnoabaaPoR
import Derived.Test.YteililgfjnoabaaPoL
import Derived.Test.YteililgfjnoabaaFrZ
import Derived.Test.YteililgfjnoabaaLsw
namespace Go.Proofs.Yteililgfjnoabaa
open Go.RowKit
set_option linter.unusedVariables false
set_option maxRecDepth 100000

/-- What kind of block it is. -/
def kindB (W : World) (k : Nat) (t : TypeId) : Prop := ∃ cur fr, W.heap[k]? = some (.cells cur t fr)
theorem kindB.uniq {W : World} {k : Nat} {t t' : TypeId} (h : kindB W k t) (h' : kindB W k t') : t = t' := by
  obtain ⟨c, f, e⟩ := h
  obtain ⟨c', f', e'⟩ := h'
  rw [e] at e'
  cases e'
  rfl
theorem Blk.kind {W : World} {k : Nat} {xs : Array Value} {t : TypeId} (h : Blk W k xs t) : kindB W k t := ⟨xs, _, h⟩
theorem own_kind {W : World} {B n e s : Nat} {v : Value} {xs : List Value} (h : W.ownsRow B e s v n xs) {k : Nat} (hk : v.ownBlock = some k) : kindB W k e := by
  rcases h.2 with ⟨h2, _⟩ | ⟨g, cap, cur, h2, _, hg, _⟩
  · rw [h2] at hk; cases hk
  · rw [h2] at hk
    have : g = k := by simpa [Value.ownBlock] using hk
    subst this
    exact ⟨cur, _, hg⟩
/-- Nothing but blocks of these kinds has turned. -/
structure Kin (ts : TypeId → Prop) (W W' : World) : Prop where
  os : W'.os = W.os
  tape : W'.tape = W.tape
  output : W'.output = W.output
  size : W.heap.size ≤ W'.heap.size
  other : ∀ k t, k < W.heap.size → kindB W k t → ¬ ts t → W'.heap[k]? = W.heap[k]?
theorem Blk.kin {ts : TypeId → Prop} {W W' : World} {k : Nat} {xs : Array Value} {t : TypeId} (h : Blk W k xs t) (m : Kin ts W W') (ht : ¬ ts t) : Blk W' k xs t := by
  unfold Blk
  rw [m.other k t h.lt h.kind ht]
  exact h
theorem own_kin {ts : TypeId → Prop} {W W' : World} {B n e s : Nat} {v : Value} {xs : List Value} (h : W.ownsRow B e s v n xs) (m : Kin ts W W') (ht : ¬ ts e) : W'.ownsRow B e s v n xs :=
  own_at h fun g hg => m.other g e (h.lt g hg).2 (own_kind h hg) ht
abbrev tP (t : TypeId) : Prop := t = 54 ∨ t = 30 ∨ t = 9
abbrev tB (t : TypeId) : Prop := t = 5 ∨ t = 34
theorem Pt.kin {W W' : World} {B b : Nat} {v v' : Value} {S : PS} (h : Pt W B b v S) (m : Mv b W W' v v') : Kin tP W W' :=
  ⟨m.os, m.tape, m.output, m.size, fun k t hk hkd ht => m.other k hk (fun e => ht (by subst e; exact .inl (hkd.uniq h.blk.kind))) (fun e => ht (.inr (.inr (hkd.uniq (own_kind h.own e)))))⟩
theorem Rt.kin {W W' : World} {B r : Nat} {u u' : Value} {S : PS} (h : Rt W B r u S) (m : Mv r W W' u u') : Kin tP W W' :=
  ⟨m.os, m.tape, m.output, m.size, fun k t hk hkd ht => m.other k hk (fun e => ht (by subst e; exact .inr (.inl (hkd.uniq h.blk.kind)))) (fun e => ht (.inr (.inr (hkd.uniq (own_kind h.own e)))))⟩
theorem kin_chg {W W' : World} {g : Nat} {t : TypeId} {ts : TypeId → Prop} (hg : kindB W g t) (k : Chg g W W') (ht : ts t) : Kin ts W W' :=
  ⟨k.os, k.tape, k.output, Nat.le_of_eq k.size.symm, fun i t' _ hi hn => k.other i (fun e => hn (by subst e; rw [hi.uniq hg]; exact ht))⟩
theorem kin_grown {W W' : World} {B n e s : Nat} {v : Value} {xs : List Value} {ts : TypeId → Prop} (h : W.ownsRow B e s v n xs) (hg : W.grownBy W' v.ownBlock) (ht : ts e) : Kin ts W W' :=
  ⟨hg.os, hg.tape, hg.output, hg.size, fun i t' hi hk hn => hg.block i hi (fun e1 => hn (by rw [hk.uniq (own_kind h e1.symm)]; exact ht))⟩
/-- Copies, each its own. -/
structure Cps (W : World) (B : Nat) (us : List Value) (ls : List (List Nat)) : Prop where
  len : us.length = ls.length
  each : ∀ (i : Nat) (u : Value) (l : List Nat), us[i]? = some u → ls[i]? = some l → Cp W B u l
  sep : ∀ (i j : Nat) (u u' : Value), i < j → us[i]? = some u → us[j]? = some u' → Sep u u'
theorem Cp.blk {W : World} {B : Nat} {u : Value} {l : List Nat} (h : Cp W B u l) : ∃ g, u.ownBlock = some g ∧ B ≤ g ∧ g < W.heap.size ∧ kindB W g 5 := by
  obtain ⟨g, cap, rfl, h1⟩ := h
  exact ⟨g, rfl, (h1.lt g rfl).1, (h1.lt g rfl).2, own_kind h1 rfl⟩
theorem Cp.at {W W' : World} {B : Nat} {u : Value} {l : List Nat} (h : Cp W B u l) (he : ∀ g, u.ownBlock = some g → W'.heap[g]? = W.heap[g]?) : Cp W' B u l := by
  obtain ⟨g, cap, rfl, h1⟩ := h
  exact ⟨g, cap, rfl, own_at h1 he⟩
theorem Cp.kin {ts : TypeId → Prop} {W W' : World} {B : Nat} {u : Value} {l : List Nat} (h : Cp W B u l) (m : Kin ts W W') (ht : ¬ ts 5) : Cp W' B u l := by
  obtain ⟨g, hg, -, hlt, hk⟩ := h.blk
  refine h.at fun g' hg' => ?_
  rw [hg] at hg'
  cases hg'
  exact m.other g _ hlt hk ht
theorem Cp.less {W : World} {B B' : Nat} {u : Value} {l : List Nat} (h : Cp W B u l) (hb : B' ≤ B) : Cp W B' u l := by
  obtain ⟨g, cap, rfl, h1⟩ := h
  exact ⟨g, cap, rfl, own_less h1 hb⟩
theorem Cps.keep {W W' : World} {B : Nat} {us : List Value} {ls : List (List Nat)} (h : Cps W B us ls) (hb : Below W.heap.size W W') : Cps W' B us ls := ⟨h.len, fun i u l hu hl => (h.each i u l hu hl).keep hb, h.sep⟩
theorem Cps.kin {ts : TypeId → Prop} {W W' : World} {B : Nat} {us : List Value} {ls : List (List Nat)} (h : Cps W B us ls) (m : Kin ts W W') (ht : ¬ ts 5) : Cps W' B us ls := ⟨h.len, fun i u l hu hl => (h.each i u l hu hl).kin m ht, h.sep⟩
theorem cps_nil (W : World) (B : Nat) : Cps W B [] [] := ⟨rfl, fun i u l h => by simp at h, fun i j u u' _ h => by simp at h⟩
theorem Cps.snoc {W W' : World} {B : Nat} {us : List Value} {ls : List (List Nat)} {x : Value} {l : List Nat} (h : Cps W B us ls) (hb : Below W.heap.size W W') (hx : Cp W' W.heap.size x l) (hB : B ≤ W.heap.size) : Cps W' B (us ++ [x]) (ls ++ [l]) := by
  have hk := h.keep hb
  have hl := h.len
  refine ⟨by simp [hl], fun i u m hu hm => ?_, fun i j u u' hij hu hu' => ?_⟩
  · by_cases c : i < us.length
    · rw [List.getElem?_append_left c] at hu
      rw [List.getElem?_append_left (by omega)] at hm
      exact hk.each i u m hu hm
    · rw [List.getElem?_append_right (by omega)] at hu
      rw [List.getElem?_append_right (by omega)] at hm
      have hi : i - us.length = 0 := by have := (List.getElem?_eq_some_iff.1 hu).1; simp at this; omega
      rw [hi] at hu
      rw [show i - ls.length = 0 by omega] at hm
      simp at hu hm
      subst hu
      subst hm
      exact hx.less hB
  · by_cases c : j < us.length
    · rw [List.getElem?_append_left c] at hu'
      rw [List.getElem?_append_left (by omega)] at hu
      exact h.sep i j u u' hij hu hu'
    · rw [List.getElem?_append_right (by omega)] at hu'
      have hj : j - us.length = 0 := by have := (List.getElem?_eq_some_iff.1 hu').1; simp at this; omega
      rw [hj] at hu'
      simp at hu'
      subst hu'
      have hil : i < us.length := by omega
      rw [List.getElem?_append_left hil] at hu
      obtain ⟨g, hg, -, hlt, -⟩ := (h.each i u _ hu (List.getElem?_eq_getElem (by omega))).blk
      obtain ⟨g', hg', hge, -, -⟩ := hx.blk
      intro k hk1 hk2
      rw [hg] at hk1
      rw [hg'] at hk2
      cases hk1
      cases hk2
      omega
/-- A list of copies as a slice of slices. -/
theorem cps_ls {W : World} {B B' n : Nat} {x : Value} {us : List Value} {ls : List (List Nat)} (h : Cps W B us ls) (ho : W.ownsRow B' 34 1 x n us) : Ls W x us ls :=
  ls_own ho h.len fun i u l hu hl => (h.each i u l hu hl).ow.sl
/-- append of lists, in a list of operations. -/
theorem app_lt {ops : Array Oper} {rest : List Oper} {o : Oper} {a : Act} {w : World} {Q : Exit → Act → World → Prop} (base : Nat) (hw : Region.wanted o (yielded ops a.tmps) = true) {s x : Operand} (ho : o.op = .call { callee := .builtin .append, args := #[s, x], argTypes := #[31, 31] })
    {v vx : Value} {n k : Nat} {xs vs : List Value} {ls : List (List Nat)} (hs : a.eval s = v) (hown : w.ownsRow base 34 1 v n xs) (hx : a.eval x = vx) (hsl : Ls w vx vs ls) (hm : ls.length = k) (h63 : n + k ≤ 5864062014805) (hA : base ≤ w.heap.size)
    (h : ∀ v' w', w'.ownsRow base 34 1 v' (n + k) (xs ++ vs) → w.grownBy w' v.ownBlock → wpList Try.prog ops Q rest (a.put o.dst v') w') : wpList Try.prog ops Q (o :: rest) a w := by
  unfold wpList
  rw [if_pos hw]
  left
  exact appLW base o.dst rfl ho hs hown hx hsl hm h63 hA h
theorem mvP2 {W W' : World} {B b r : Nat} {v v' u : Value} {S1 S2 : PS} (P : Pt W B b v S1) (R : Rt W B r u S2) (hs : Sep v u) (m : Mv b W W' v v') : Rt W' B r u S2 ∧ Sep v' u := by
  refine ⟨⟨R.ge, ?_, own_at R.own fun g hg => m.other g (R.ult g hg) (fun e => ?_) (fun e => hs g e hg)⟩, fun k hk => ?_⟩
  · unfold Blk
    rw [m.other r R.blk.lt (blk_ne R.blk P.blk (by decide)) (blk_own P.own R.blk (by decide))]
    exact R.blk
  · subst e
    exact blk_own R.own P.blk (by decide) hg
  · rcases m.next k hk with e | e
    · exact hs k e
    · intro e2
      have := R.ult k e2
      omega
theorem mvR2 {W W' : World} {B b r : Nat} {v u u' : Value} {S1 S2 : PS} (P : Pt W B b v S1) (R : Rt W B r u S2) (hs : Sep v u) (m : Mv r W W' u u') : Pt W' B b v S1 ∧ Sep v u' := by
  refine ⟨⟨P.ge, ?_, own_at P.own fun g hg => m.other g (P.vlt g hg) (fun e => ?_) (fun e => hs g hg e), P.max, P.bl, P.bt, P.byt⟩, fun k hk hk2 => ?_⟩
  · unfold Blk
    rw [m.other b P.blk.lt (blk_ne P.blk R.blk (by decide)) (blk_own R.own P.blk (by decide))]
    exact P.blk
  · subst e
    exact blk_own P.own R.blk (by decide) hg
  · rcases m.next k hk2 with e | e
    · exact hs k hk e
    · have := P.vlt k hk
      omega
theorem Pt.kinB {W W' : World} {B b : Nat} {v : Value} {S : PS} (h : Pt W B b v S) (m : Kin tB W W') : Pt W' B b v S := ⟨h.ge, h.blk.kin m (by decide), own_kin h.own m (by decide), h.max, h.bl, h.bt, h.byt⟩
theorem Rt.kinB {W W' : World} {B r : Nat} {u : Value} {S : PS} (h : Rt W B r u S) (m : Kin tB W W') : Rt W' B r u S := ⟨h.ge, h.blk.kin m (by decide), own_kin h.own m (by decide)⟩
theorem bs_0 {ops : Array Oper} {rest : List Oper} {o : Oper} {a : Act} {w : World} {Q : Exit → Act → World → Prop} (hw : Region.wanted o (yielded ops a.tmps) = true) (ho : o.op = .buildSlice 31 0 #[])
    (h : ∀ v' W', W'.ownsRow w.heap.size 34 1 v' 0 [] → Below w.heap.size w W' → wpList Try.prog ops Q rest (a.put o.dst v') W') : wpList Try.prog ops Q (o :: rest) a w := by
  unfold wpList
  rw [if_pos hw]
  left
  exact lst0W o.dst rfl ho h
theorem puts_max (ms : List (List Nat)) : ∀ S : PS, S.l.length ≤ 4096 → (puts S ms).l.length ≤ 4096 := by
  induction ms with
  | nil => intro S h; exact h
  | cons m r ih =>
    intro S h
    refine ih (put1 S m) ?_
    unfold put1
    split
    · show (S.l ++ [m]).length ≤ 4096
      rw [List.length_append]
      simp
      omega
    · exact h
theorem mtake_yes (base r i : Nat) (u : Value) (S : PS) (m : List Nat) (w : World) (h : Rt w base r u S) (hmax : S.l.length ≤ 4096) (hm : S.l[i]? = some m) :
    Calls Try.prog 17 #[pptr r, .int .i64 (i : Int)] w fun e w' => e = .returned (.tuple #[.string (strB m), .bool true]) ∧ ∃ u', Rt w' base r u' ⟨S.l.eraseIdx i, S.lost, S.taken⟩ ∧ Mv r w w' u u' := by
  have hi : i < S.l.length := (List.getElem?_eq_some_iff.1 hm).1
  refine (mtake_any base r i (i : Int) u S w h hmax (fun j _ => by omega)).mono ?_
  rintro e w' ⟨rfl, u', h1, h2, -⟩
  refine ⟨?_, u', h1, h2⟩
  have e1 : tk S.l i S.l.length = m := by unfold tk; rw [if_pos hi]; simp [List.getD, hm]
  rw [e1, decide_eq_true hi]
theorem mtake_no (base r : Nat) (i : Int) (u : Value) (S : PS) (w : World) (h : Rt w base r u S) (hmax : S.l.length ≤ 4096) (hi : ¬ (0 ≤ i ∧ i < (S.l.length : Int))) :
    Calls Try.prog 17 #[pptr r, .int .i64 i] w fun e w' => e = .returned (.tuple #[.string (strB []), .bool false]) ∧ ∃ u', Rt w' base r u' S ∧ Mv r w w' u u' := by
  refine (mtake_any base r S.l.length i u S w h hmax (fun j hj => ⟨fun e => absurd ⟨by omega, by omega⟩ hi, fun e => by omega⟩)).mono ?_
  rintro e w' ⟨rfl, u', h1, h2, -⟩
  refine ⟨?_, u', ?_, h2⟩
  · have e1 : tk S.l S.l.length S.l.length = [] := by unfold tk; rw [if_neg (by omega)]
    rw [e1, decide_eq_false (by omega)]
  · rw [List.eraseIdx_of_length_le (Nat.le_refl _)] at h1
    exact h1
end Go.Proofs.Yteililgfjnoabaa
