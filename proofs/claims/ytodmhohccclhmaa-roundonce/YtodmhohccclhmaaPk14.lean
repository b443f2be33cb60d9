/-
  What every act on rounds over registers keeps.
  The acts on rounds over registers, one by one; what is asked at the end.
  A new round; what is asked of rounds at the end.
-/
import Derived.Test.YtodmhohccclhmaaPk13
namespace Go.Proofs.Ytodmhohccclhmaa
set_option linter.unusedVariables false

/-- Rounds only grow. -/
structure RGrow (S S' : Net) : Prop where
  up : ∀ (j : Nat) (Q : Rd), S.rd[j]? = some Q → ∃ Q', S'.rd[j]? = some Q' ∧ Q'.b = Q.b ∧ (told Q → told Q' ∧ Q'.v = Q.v)
  dn : ∀ (j : Nat) (Q' : Rd), S'.rd[j]? = some Q' → (∃ Q, S.rd[j]? = some Q ∧ Q'.b = Q.b) ∨ S.rd[j]? = none
theorem RGrow.same {S S' : Net} (h : S'.rd = S.rd) : RGrow S S' := ⟨fun j Q hQ => ⟨Q, by rw [h]; exact hQ, rfl, fun ht => ⟨ht, rfl⟩⟩, fun j Q' hQ => .inl ⟨Q', by rw [← h]; exact hQ, rfl⟩⟩
theorem From.grow {S S' : Net} (g : RGrow S S') {a : Bt} {l : List Int} (h : From S a l) : From S' a l := by
  rcases h with h | ⟨j, R, hj, ht, e1, e2⟩
  · exact .inl h
  · obtain ⟨Q, h1, h2, h3⟩ := g.up j R hj
    obtain ⟨h4, h5⟩ := h3 ht
    exact .inr ⟨j, Q, h1, h4, by rw [h2]; exact e1, by rw [h5]; exact e2⟩
theorem Prom.grow {acc acc' : Nat → Nat → Prop} {S S' : Net} (g : RGrow S S') {k : Nat} {R R' : Rd} {a : Bt} {l : List Int} (h : Prom acc S k R a l) (hb : R'.b = R.b)
    (hp : ∀ x', S'.rg[k]? = some x' → ∃ x, S.rg[k]? = some x ∧ leK x.p x'.p) (ha : ∀ (j : Nat) (Q' : Rd), acc' k j → S'.rd[j]? = some Q' → acc k j ∨ leK R.b Q'.b) (hn : ∀ j, acc k j → S.rd[j]? ≠ none) : Prom acc' S' k R' a l := by
  refine ⟨fun x' hx' => ?_, h.fr.grow g, fun j Q' hj hQ' => ?_, by rw [hb]; exact h.lt, h.sz⟩
  · obtain ⟨x, hx, hl⟩ := hp x' hx'
    rw [hb]
    exact leK_trans (h.up x hx) hl
  · rw [hb]
    rcases ha j Q' hj hQ' with h1 | h1
    · rcases g.dn j Q' hQ' with ⟨Q, hQ, e⟩ | e
      · rw [e]; exact h.no j Q h1 hQ
      · exact absurd e (hn j h1)
    · exact .inr h1
theorem Inv.accd {acc : Nat → Nat → Prop} {S : Net} (h : Inv acc S) (k j : Nat) (ha : acc k j) : S.rd[j]? ≠ none := by
  obtain ⟨x, Q, -, hQ, -⟩ := h.acn k j ha
  rw [hQ]
  simp
theorem LtOK.grow {acc acc' : Nat → Nat → Prop} {S S' : Net} (g : RGrow S S') {l : Lt} {R R' : Rd} (h : LtOK acc S l R) (hn : S'.n = S.n) (hb : R'.b = R.b) (ht : told R → told R' ∧ R'.v = R.v) (hlen : S.rd.length ≤ S'.rd.length)
    (hp : ∀ x', S'.rg[l.k]? = some x' → ∃ x, S.rg[l.k]? = some x ∧ leK x.p x'.p) (ha : l.kd = 2 → ∀ (j : Nat) (Q' : Rd), acc' l.k j → S'.rd[j]? = some Q' → acc l.k j ∨ leK R.b Q'.b) (hm : ∀ k j, acc k j → acc' k j) (hd : ∀ j, acc l.k j → S.rd[j]? ≠ none) : LtOK acc' S' l R' := by
  refine ⟨by rw [hn]; exact h.kn, by rw [hb]; exact h.eb, fun e => ?_, fun e => (h.pm e).grow g hb hp (ha e) hd, fun e => hm _ _ (h.ac e), fun e => by have := h.gn e; omega, h.k4⟩
  obtain ⟨h1, h2⟩ := h.tl e
  obtain ⟨h3, h4⟩ := ht h1
  exact ⟨h3, by rw [h4]; exact h2⟩
/-- Letters that are lost or copied. -/
theorem inv_sub {acc : Nat → Nat → Prop} {S : Net} (h : Inv acc S) {ls : List Lt} (hs : ∀ l ∈ ls, l ∈ S.lt) : Inv acc { S with lt := ls } := by
  have g : RGrow S { S with lt := ls } := RGrow.same rfl
  refine ⟨h.n1, h.n5, h.rl, h.ll, h.rok, h.bn, h.dis, h.las, h.rgd, h.acn, fun l hl => ?_, fun i R k a l hi hk => ?_, h.acs⟩
  · obtain ⟨R, hR, ho⟩ := h.lts l (hs l hl)
    exact ⟨R, hR, ho.grow g rfl rfl (fun t => ⟨t, rfl⟩) (Nat.le_refl _) (fun x hx => ⟨x, hx, leK_refl _⟩) (fun _ j Q hj _ => .inl hj) (fun _ _ e => e) (fun j hj => h.accd _ j hj)⟩
  · exact (h.prs i R k a l hi hk).grow g rfl (fun x hx => ⟨x, hx, leK_refl _⟩) (fun j Q hj _ => .inl hj) (fun j hj => h.accd _ j hj)
/-- New letters. -/
theorem inv_lt {acc : Nat → Nat → Prop} {S : Net} (h : Inv acc S) {ls : List Lt} (hs : ∀ l ∈ ls, ∃ R, S.rd[l.r]? = some R ∧ LtOK acc S l R) : Inv acc { S with lt := S.lt ++ ls } := by
  have g : RGrow S { S with lt := S.lt ++ ls } := RGrow.same rfl
  refine ⟨h.n1, h.n5, h.rl, h.ll, h.rok, h.bn, h.dis, h.las, h.rgd, h.acn, fun l hl => ?_, fun i R k a l hi hk => ?_, h.acs⟩
  · have : ∃ R, S.rd[l.r]? = some R ∧ LtOK acc S l R := by
      rcases List.mem_append.1 hl with e | e
      · exact h.lts l e
      · exact hs l e
    obtain ⟨R, hR, ho⟩ := this
    exact ⟨R, hR, ho.grow g rfl rfl (fun t => ⟨t, rfl⟩) (Nat.le_refl _) (fun x hx => ⟨x, hx, leK_refl _⟩) (fun _ j Q hj _ => .inl hj) (fun _ _ e => e) (fun j hj => h.accd _ j hj)⟩
  · exact (h.prs i R k a l hi hk).grow g rfl (fun x hx => ⟨x, hx, leK_refl _⟩) (fun j Q hj _ => .inl hj) (fun j hj => h.accd _ j hj)
/-- A keeper's register turns, by a promise or an acceptance. -/
theorem inv_rg {acc : Nat → Nat → Prop} {S : Net} (h : Inv acc S) {k : Nat} {x x' : Rg} (hk : S.rg[k]? = some x) (A : Nat → Prop) (hg : gdR x' = true) (hp : leK x.p x'.p) (hn : x'.p.n ≤ (S.rd.length : Int)) (hf : From S x'.a x'.l) (ha : leK x.a x'.a)
    (hA : ∀ j, A j → ∃ Q, S.rd[j]? = some Q ∧ told Q ∧ leK x.p Q.b ∧ leK Q.b x'.a) : Inv (fun c j => acc c j ∨ (c = k ∧ A j)) { S with rg := S.rg.set k x' } := by
  have g : RGrow S { S with rg := S.rg.set k x' } := RGrow.same rfl
  have hkl : k < S.rg.length := (List.getElem?_eq_some_iff.1 hk).1
  have key : ∀ c y', (S.rg.set k x')[c]? = some y' → ∃ y, S.rg[c]? = some y ∧ leK y.p y'.p ∧ leK y.a y'.a ∧ ((c = k ∧ y = x ∧ y' = x') ∨ (c ≠ k ∧ y' = y)) := by
    intro c y' hy
    by_cases e : c = k
    · subst e
      rw [List.getElem?_set_self hkl] at hy
      cases hy
      exact ⟨x, hk, hp, ha, .inl ⟨rfl, rfl, rfl⟩⟩
    · rw [List.getElem?_set_ne (fun e' => e e'.symm)] at hy
      exact ⟨y', hy, leK_refl _, leK_refl _, .inr ⟨e, rfl⟩⟩
  have pk : ∀ (c : Nat) (R : Rd) (a : Bt) (l : List Int), Prom acc S c R a l → Prom (fun c j => acc c j ∨ (c = k ∧ A j)) { S with rg := S.rg.set k x' } c R a l := by
    intro c R a l hP
    refine hP.grow g rfl (fun y' hy' => ?_) (fun j Q hj hQ => ?_) (fun j hj => h.accd _ j hj)
    · obtain ⟨y, h1, h2, -⟩ := key c y' hy'
      exact ⟨y, h1, h2⟩
    · rcases hj with hj | ⟨e, hj⟩
      · exact .inl hj
      · subst e
        obtain ⟨Q2, hQ2, -, h3, -⟩ := hA j hj
        have : Q2 = Q := by rw [show ({ S with rg := S.rg.set c x' } : Net).rd[j]? = S.rd[j]? from rfl] at hQ; rw [hQ2] at hQ; exact Option.some.inj hQ
        subst this
        exact .inr (leK_trans (hP.up x hk) h3)
  refine ⟨h.n1, h.n5, by show (S.rg.set k x').length = S.n; rw [List.length_set]; exact h.rl, h.ll, h.rok, h.bn, h.dis, h.las, fun c y' hy' => ?_, fun c j hj => ?_, fun l hl => ?_, fun i R c a l hi hc => ?_, fun i R c hi hc => .inl (h.acs i R c hi hc)⟩
  · obtain ⟨y, h1, h2, h3, h4 | h4⟩ := key c y' hy'
    · obtain ⟨-, -, rfl⟩ := h4
      exact ⟨hg, hn, hf.grow g⟩
    · obtain ⟨-, rfl⟩ := h4
      obtain ⟨h5, h6, h7⟩ := h.rgd c y' h1
      exact ⟨h5, h6, h7.grow g⟩
  · by_cases e : c = k
    · subst e
      refine ⟨x', ?_⟩
      have h0 : ({ S with rg := S.rg.set c x' } : Net).rg[c]? = some x' := List.getElem?_set_self hkl
      rcases hj with hj | ⟨-, hj⟩
      · obtain ⟨y, Q, h1, h2, h3, h4⟩ := h.acn c j hj
        rw [hk] at h1
        cases h1
        exact ⟨Q, h0, h2, h3, leK_trans h4 ha⟩
      · obtain ⟨Q, h1, h2, -, h4⟩ := hA j hj
        exact ⟨Q, h0, h1, h2, h4⟩
    · rcases hj with hj | ⟨e', -⟩
      · obtain ⟨y, Q, h1, h2, h3, h4⟩ := h.acn c j hj
        exact ⟨y, Q, by show (S.rg.set k x')[c]? = some y; rw [List.getElem?_set_ne (fun e' => e e'.symm)]; exact h1, h2, h3, h4⟩
      · exact absurd e' e
  · obtain ⟨R, hR, ho⟩ := h.lts l hl
    exact ⟨R, hR, ho.kn, ho.eb, ho.tl, fun e => pk _ _ _ _ (ho.pm e), fun e => .inl (ho.ac e), ho.gn, ho.k4⟩
  · exact pk _ _ _ _ (h.prs i R c a l hi hc)
/-- A round turns. -/
theorem inv_rd {acc : Nat → Nat → Prop} {S : Net} (h : Inv acc S) {r : Nat} {R R' : Rd} (hr : S.rd[r]? = some R) (hok : RndOK S.n R') (hb : R'.b = R.b) (hm : R'.mt.n ≤ (S.rd.length : Int)) (ht : told R → told R' ∧ R'.v = R.v)
    (hp : ∀ (k : Nat) (a : Bt) (l : List Int), R'.pr[k]? = some (some (a, l)) → Prom acc S k R a l) (ha : ∀ k, R'.ac[k]? = some true → acc k r) : Inv acc { S with rd := S.rd.set r R' } := by
  have hrl : r < S.rd.length := (List.getElem?_eq_some_iff.1 hr).1
  have key : ∀ i Q', (S.rd.set r R')[i]? = some Q' → ∃ Q, S.rd[i]? = some Q ∧ Q'.b = Q.b ∧ ((i = r ∧ Q = R ∧ Q' = R') ∨ (i ≠ r ∧ Q' = Q)) := by
    intro i Q' hQ
    by_cases e : i = r
    · subst e
      rw [List.getElem?_set_self hrl] at hQ
      cases hQ
      exact ⟨R, hr, hb, .inl ⟨rfl, rfl, rfl⟩⟩
    · rw [List.getElem?_set_ne (fun e' => e e'.symm)] at hQ
      exact ⟨Q', hQ, rfl, .inr ⟨e, rfl⟩⟩
  have up : ∀ (j : Nat) (Q : Rd), S.rd[j]? = some Q → ∃ Q', (S.rd.set r R')[j]? = some Q' ∧ Q'.b = Q.b ∧ (told Q → told Q' ∧ Q'.v = Q.v) := by
    intro j Q hQ
    by_cases e : j = r
    · subst e
      rw [hr] at hQ
      cases hQ
      exact ⟨R', List.getElem?_set_self hrl, hb, ht⟩
    · exact ⟨Q, by rw [List.getElem?_set_ne (fun e' => e e'.symm)]; exact hQ, rfl, fun t => ⟨t, rfl⟩⟩
  have g : RGrow S { S with rd := S.rd.set r R' } := ⟨up, fun j Q' hQ' => by obtain ⟨Q, h1, h2, -⟩ := key j Q' hQ'; exact .inl ⟨Q, h1, h2⟩⟩
  have hlen : ({ S with rd := S.rd.set r R' } : Net).rd.length = S.rd.length := List.length_set
  have pk : ∀ (c : Nat) (Q Q' : Rd) (a : Bt) (l : List Int), Q'.b = Q.b → Prom acc S c Q a l → Prom acc { S with rd := S.rd.set r R' } c Q' a l := fun c Q Q' a l e hP =>
    hP.grow g e (fun x hx => ⟨x, hx, leK_refl _⟩) (fun j Q hj _ => .inl hj) (fun j hj => h.accd _ j hj)
  refine ⟨h.n1, h.n5, h.rl, h.ll, fun i Q' hQ' => ?_, fun i Q' hQ' => ?_, fun i j P Q hi hj e => ?_, fun w x hx => ?_, fun k x hx => ?_, fun k j hj => ?_, fun l hl => ?_, fun i Q' k a l hi hk => ?_, fun i Q' k hi hk => ?_⟩
  · obtain ⟨Q, h1, h2, ⟨-, -, rfl⟩ | ⟨-, rfl⟩⟩ := key i Q' hQ'
    · exact hok
    · exact h.rok i _ h1
  · rw [hlen]
    obtain ⟨Q, h1, h2, ⟨-, rfl, rfl⟩ | ⟨-, rfl⟩⟩ := key i Q' hQ'
    · exact ⟨by rw [h2]; exact (h.bn i _ h1).1, hm⟩
    · exact h.bn i _ h1
  · obtain ⟨P0, h1, h2, -⟩ := key i P hi
    obtain ⟨Q0, h3, h4, -⟩ := key j Q hj
    exact h.dis i j P0 Q0 h1 h3 (by rw [← h2, ← h4]; exact e)
  · rw [hlen]
    obtain ⟨h1, h2, h3⟩ := h.las w x hx
    refine ⟨h1, h2, fun i Q' hi e => ?_⟩
    obtain ⟨Q, h4, h5, -⟩ := key i Q' hi
    rw [h5] at e ⊢
    exact h3 i Q h4 e
  · rw [hlen]
    obtain ⟨h1, h2, h3⟩ := h.rgd k x hx
    exact ⟨h1, h2, h3.grow g⟩
  · obtain ⟨x, Q, h1, h2, h3, h4⟩ := h.acn k j hj
    obtain ⟨Q', h5, h6, h7⟩ := up j Q h2
    exact ⟨x, Q', h1, h5, (h7 h3).1, by rw [h6]; exact h4⟩
  · obtain ⟨Q, hQ, ho⟩ := h.lts l hl
    obtain ⟨Q', h5, h6, h7⟩ := up _ Q hQ
    exact ⟨Q', h5, ho.grow g rfl h6 h7 (by rw [hlen]; exact Nat.le_refl _) (fun x hx => ⟨x, hx, leK_refl _⟩) (fun _ j Q hj _ => .inl hj) (fun _ _ e => e) (fun j hj => h.accd _ j hj)⟩
  · obtain ⟨Q, h1, h2, ⟨rfl, rfl, rfl⟩ | ⟨-, rfl⟩⟩ := key i Q' hi
    · exact pk _ _ _ _ _ h2 (hp k a l hk)
    · exact pk _ _ _ _ _ rfl (h.prs i _ k a l h1 hk)
  · obtain ⟨Q, h1, h2, ⟨rfl, rfl, rfl⟩ | ⟨-, rfl⟩⟩ := key i Q' hi
    · exact ha k hk
    · exact h.acs i _ k h1 hk
end Go.Proofs.Ytodmhohccclhmaa
namespace Go.Proofs.Ytodmhohccclhmaa
set_option linter.unusedVariables false

theorem prN_zero {x : Rg} {b : Bt} (h : prN x b = 0) : gdR x = true ∧ asB b = true ∧ lt3 x.p b = true := by
  unfold prN at h
  cases h1 : gdR x <;> cases h2 : asB b <;> cases h3 : lt3 x.p b <;> rw [h1, h2, h3] at h <;> simp at h
  exact ⟨rfl, rfl, rfl⟩
theorem acN_zero {x : Rg} {b : Bt} {m : List Int} (h : acN x b m = 0) : gdR x = true ∧ asB b = true ∧ m.length ≤ 32 ∧ leK x.p b := by
  unfold acN at h
  by_cases h4 : m.length ≤ 32
  · rw [decide_eq_true h4] at h
    cases h1 : gdR x <;> cases h2 : asB b <;> cases h3 : lt3 b x.p <;> rw [h1, h2, h3] at h <;> simp at h
    exact ⟨rfl, rfl, h4, h3⟩
  · rw [decide_eq_false h4] at h
    simp at h
theorem gdR_open {x : Rg} (h : gdR x = true) : whB x.p = true ∧ whB x.a = true ∧ leK x.a x.p ∧ (if noB x.a then decide (x.l.length = 0) else decide (x.l.length ≤ 32)) = true := by
  unfold gdR gdN at h
  rw [Bool.and_eq_true, Bool.and_eq_true, Bool.and_eq_true, Bool.not_eq_true'] at h
  exact ⟨h.1, h.2.1, h.2.2.1, h.2.2.2⟩
theorem gdR_make {p a : Bt} {l : List Int} (h1 : whB p = true) (h2 : whB a = true) (h3 : leK a p) (h4 : (if noB a then decide (l.length = 0) else decide (l.length ≤ 32)) = true) : gdR ⟨p, a, l⟩ = true := by
  show (whB p && (whB a && (!lt3 p a && (if noB a then decide (l.length = 0) else decide (l.length ≤ 32))))) = true
  rw [h1, h2, h3, h4]
  rfl
theorem gdR_len {x : Rg} (h : gdR x = true) : x.l.length ≤ 32 := by
  have := (gdR_open h).2.2.2
  split at this
  · simp at this; rw [this]; simp
  · simpa using this
theorem asB_open {b : Bt} (h : asB b = true) : whB b = true ∧ noB b = false := by
  unfold asB at h
  rw [Bool.and_eq_true, Bool.not_eq_true'] at h
  exact h
/-- A promise is made. -/
theorem inv_ask {acc : Nat → Nat → Prop} {S : Net} (h : Inv acc S) {l : Lt} {R : Rd} {x : Rg} (hr : S.rd[l.r]? = some R) (hl : LtOK acc S l R) (hx : S.rg[l.k]? = some x) (hp : prN x l.b = 0) :
    ∃ acc', Inv acc' { S with rg := S.rg.set l.k ⟨l.b, x.a, x.l⟩, lt := S.lt ++ [⟨2, l.r, l.k, l.b, zB, l.b, x.a, x.l, []⟩] } := by
  obtain ⟨g1, g2, g3⟩ := prN_zero hp
  obtain ⟨w1, w2, w3, w4⟩ := gdR_open g1
  obtain ⟨-, hn, hf⟩ := h.rgd _ x hx
  have hle : leK x.a l.b := leK_trans w3 (lt_leK g3)
  have h1 := inv_rg h hx (x' := ⟨l.b, x.a, x.l⟩) (fun _ => False) (gdR_make (asB_open g2).1 w2 hle w4) (lt_leK g3) (by rw [hl.eb]; exact (h.bn _ R hr).1) hf (leK_refl _) (fun j e => e.elim)
  refine ⟨_, inv_lt h1 (ls := [⟨2, l.r, l.k, l.b, zB, l.b, x.a, x.l, []⟩]) (fun m hm => ?_)⟩
  have : m = ⟨2, l.r, l.k, l.b, zB, l.b, x.a, x.l, []⟩ := by simpa using hm
  subst this
  have hkl : l.k < S.rg.length := (List.getElem?_eq_some_iff.1 hx).1
  refine ⟨R, hr, ⟨hl.kn, hl.eb, (fun e => by cases e), fun _ => ?_, (fun e => by cases e), (fun e => by cases e), by show 2 ≤ 4; omega⟩⟩
  refine ⟨fun y hy => ?_, hf, fun j Q hj hQ => ?_, by rw [← hl.eb]; exact leK_lt w3 g3, gdR_len g1⟩
  · have : (S.rg.set l.k ⟨l.b, x.a, x.l⟩)[l.k]? = some y := hy
    rw [List.getElem?_set_self hkl] at this
    cases this
    rw [hl.eb]
    exact leK_refl _
  · rcases hj with hj | ⟨-, e⟩
    · obtain ⟨y, Q', e1, e2, -, e4⟩ := h.acn _ j hj
      rw [hx] at e1
      cases e1
      have : Q' = Q := by have hQ' : S.rd[j]? = some Q := hQ; rw [e2] at hQ'; exact Option.some.inj hQ'
      subst this
      exact .inl e4
    · exact e.elim
/-- A value is accepted. -/
theorem inv_tell {acc : Nat → Nat → Prop} {S : Net} (h : Inv acc S) {l : Lt} {R : Rd} {x : Rg} (hr : S.rd[l.r]? = some R) (hl : LtOK acc S l R) (hk : l.kd = 1) (hx : S.rg[l.k]? = some x) (hp : acN x l.b l.v = 0) (p a : Bt) (m : List Int) :
    ∃ acc', Inv acc' { S with rg := S.rg.set l.k ⟨l.b, l.b, l.v⟩, lt := S.lt ++ [⟨3, l.r, l.k, l.b, zB, p, a, m, []⟩] } := by
  obtain ⟨g1, g2, g3, g4⟩ := acN_zero hp
  obtain ⟨w1, w2, w3, w4⟩ := gdR_open g1
  obtain ⟨t1, t2⟩ := hl.tl hk
  obtain ⟨b1, b2⟩ := asB_open g2
  have h1 := inv_rg h hx (x' := ⟨l.b, l.b, l.v⟩) (fun j => j = l.r) (gdR_make b1 b1 (leK_refl _) (by rw [b2]; simpa using g3)) g4 (by rw [hl.eb]; exact (h.bn _ R hr).1) (.inr ⟨l.r, R, hr, t1, hl.eb, t2⟩) (leK_trans w3 g4)
    (fun j e => by subst e; exact ⟨R, hr, t1, by rw [← hl.eb]; exact g4, by rw [hl.eb]; exact leK_refl _⟩)
  refine ⟨_, inv_lt h1 (ls := [⟨3, l.r, l.k, l.b, zB, p, a, m, []⟩]) (fun y hy => ?_)⟩
  have : y = ⟨3, l.r, l.k, l.b, zB, p, a, m, []⟩ := by simpa using hy
  subst this
  exact ⟨R, hr, ⟨hl.kn, hl.eb, (fun e => by cases e), (fun e => by cases e), fun _ => .inr ⟨rfl, rfl⟩, (fun e => by cases e), by show 3 ≤ 4; omega⟩⟩
/-- A refusal. -/
theorem inv_no {acc : Nat → Nat → Prop} {S : Net} (h : Inv acc S) {l : Lt} {R : Rd} {x : Rg} (hr : S.rd[l.r]? = some R) (hl : LtOK acc S l R) (hx : S.rg[l.k]? = some x) :
    Inv acc { S with lt := S.lt ++ [⟨4, l.r, l.k, l.b, x.p, zB, zB, [], []⟩] } := by
  refine inv_lt h (fun y hy => ?_)
  have : y = ⟨4, l.r, l.k, l.b, x.p, zB, zB, [], []⟩ := by simpa using hy
  subst this
  exact ⟨R, hr, ⟨hl.kn, hl.eb, (fun e => by cases e), (fun e => by cases e), (fun e => by cases e), fun _ => (h.rgd _ x hx).2.1, by show 4 ≤ 4; omega⟩⟩
theorem pm_b (R : Rd) (k : Int) (b a : Bt) (l : List Int) : (pmS R k b a l).b = R.b ∧ (pmS R k b a l).c = R.c ∧ (pmS R k b a l).n = R.n ∧ (pmS R k b a l).ac = R.ac ∧ (pmS R k b a l).mt = R.mt := by
  unfold pmS
  split
  · split <;> exact ⟨rfl, rfl, rfl, rfl, rfl⟩
  · exact ⟨rfl, rfl, rfl, rfl, rfl⟩
theorem pmK_open {R : Rd} {k : Nat} {b : Bt} (hk : k < R.pr.length) (h : pmK R (k : Int) b = true) : R.st = 1 ∧ R.pr[k]? = some none ∧ b = R.b := by
  unfold pmK at h
  rw [Bool.and_eq_true, Bool.and_eq_true, decide_eq_true_eq, Bool.not_eq_true'] at h
  obtain ⟨j, e, -, hb⟩ := hear_lt h.1
  exact ⟨h.2.1, (prsd_iff hk).1.1 h.2.2, hb⟩
theorem rnd_pm {n : Nat} {R : Rd} (h : RndOK n R) {k : Nat} (hk : k < n) (b a : Bt) (l : List Int) (hl : l.length ≤ 32) (hs : ∀ a' l', some (a', l') ∈ R.pr → l'.length ≤ 32) :
    RndOK n (pmS R (k : Int) b a l) ∧ (told R → told (pmS R (k : Int) b a l) ∧ (pmS R (k : Int) b a l).v = R.v) ∧ (pmB R (k : Int) b = true → told (pmS R (k : Int) b a l)) ∧ ∀ (c : Nat) (a' : Bt) (l' : List Int), (pmS R (k : Int) b a l).pr[c]? = some (some (a', l')) → R.pr[c]? = some (some (a', l')) ∨ (c = k ∧ a' = a ∧ l' = l) := by
  cases hK : pmK R (k : Int) b
  · obtain ⟨h1, h2⟩ := (⟨by unfold pmB; rw [hK]; rfl, by unfold pmS; rw [hK]; rfl⟩ : pmB R (k : Int) b = false ∧ pmS R (k : Int) b a l = R)
    rw [h1, h2]
    exact ⟨h, fun t => ⟨t, rfl⟩, fun e => (by cases e), fun c a' l' e => .inl e⟩
  · have hkl : k < R.pr.length := by rw [h.ok.pl, h.eqn]; exact hk
    obtain ⟨e1, e2, -⟩ := pmK_open hkl hK
    have hcnt : cntO (pmP R (k : Int) a l) = cntO R.pr + 1 := by unfold pmP; rw [Int.toNat_natCast]; exact cntO_set _ e2
    have hpr : ∀ (c : Nat) (a' : Bt) (l' : List Int), (pmP R (k : Int) a l)[c]? = some (some (a', l')) → R.pr[c]? = some (some (a', l')) ∨ (c = k ∧ a' = a ∧ l' = l) := by
      intro c a' l' e
      unfold pmP at e
      rw [Int.toNat_natCast] at e
      by_cases ec : c = k
      · subst ec
        rw [List.getElem?_set_self hkl] at e
        cases e
        exact .inr ⟨rfl, rfl, rfl⟩
      · rw [List.getElem?_set_ne (fun e' => ec e'.symm)] at e
        exact .inl e
    have hok := h.ok.put (k := (k : Int)) (a := a) (l := l) (by omega : l.length ≤ 1000)
    have hnt := h.s1 e1
    by_cases hm : R.n < 2 * (cntO R.pr + 1)
    · have e3 : pmS R (k : Int) b a l = tellR { R with pr := pmP R (k : Int) a l } := by unfold pmS; rw [hK, if_pos rfl, if_pos hm]
      rw [e3]
      have ht : told (tellR { R with pr := pmP R (k : Int) a l }) := by show R.n < 2 * cntO (pmP R (k : Int) a l); rw [hcnt]; exact hm
      have hv : (nwV (pmP R (k : Int) a l)).length ≤ 32 := nwV_le (fun a' l' hmem => by
        rcases List.mem_or_eq_of_mem_set hmem with e | e
        · exact hs a' l' e
        · cases e; exact hl)
      exact ⟨⟨h.eqn, hok.tell, fun _ => ⟨rfl, rfl⟩, fun e => absurd ht e, fun e => (by cases e), fun _ => ht, fun e => (by cases e), by show 1 ≤ 2; omega, by show 2 ≤ 4; omega, doL_le h.ok.gd hv (Nat.le_refl _), h.asb, h.nd0, h.nd2, h.lf0⟩, fun t => absurd t hnt, fun _ => ht, hpr⟩
    · have e3 : pmS R (k : Int) b a l = { R with pr := pmP R (k : Int) a l } := by unfold pmS; rw [hK, if_pos rfl, if_neg hm]
      rw [e3]
      have hB : pmB R (k : Int) b = false := by unfold pmB; rw [hK, decide_eq_false hm]; rfl
      rw [hB]
      have ht : ¬ told { R with pr := pmP R (k : Int) a l } := by show ¬ R.n < 2 * cntO (pmP R (k : Int) a l); rw [hcnt]; exact hm
      exact ⟨⟨h.eqn, hok, fun t => absurd t ht, fun _ => h.vn hnt, fun _ => ht, fun e => (by rw [show ({ R with pr := pmP R (k : Int) a l } : Rd).st = R.st from rfl, e1] at e; cases e), fun e => (by rw [show ({ R with pr := pmP R (k : Int) a l } : Rd).st = R.st from rfl, e1] at e; cases e), h.lo, h.hi, h.le, h.asb, h.nd0, h.nd2, h.lf0⟩, fun t => absurd t hnt, fun e => (by cases e), hpr⟩
/-- A promise comes. -/
theorem inv_pm {acc : Nat → Nat → Prop} {S : Net} (h : Inv acc S) {l : Lt} {R : Rd} (hr : S.rd[l.r]? = some R) (hl : LtOK acc S l R) (hk : l.kd = 2) :
    Inv acc { S with rd := S.rd.set l.r (pmS R (l.k : Int) l.b l.a l.l) } := by
  have hP := hl.pm hk
  obtain ⟨e1, e2, e3, e4, e5⟩ := pm_b R (l.k : Int) l.b l.a l.l
  have hs : ∀ a' l', some (a', l') ∈ R.pr → l'.length ≤ 32 := fun a' l' hm => by
    obtain ⟨c, hc, hc2⟩ := List.mem_iff_getElem.1 hm
    exact (h.prs _ R c a' l' hr (by rw [List.getElem?_eq_getElem hc, hc2])).sz
  obtain ⟨r1, r2, r3, r4⟩ := rnd_pm (h.rok _ R hr) hl.kn l.b l.a l.l hP.sz hs
  refine inv_rd h hr r1 e1 (by rw [e5]; exact (h.bn _ R hr).2) r2 (fun k a m hm => ?_) (fun k hm => by rw [e4] at hm; exact h.acs _ R k hr hm)
  rcases r4 k a m hm with e | ⟨rfl, rfl, rfl⟩
  · exact h.prs _ R k a m hr e
  · exact hP
/-- .. and the round comes to tell. -/
theorem inv_tells {acc : Nat → Nat → Prop} {S : Net} (h : Inv acc S) {r : Nat} {R : Rd} (hr : S.rd[r]? = some R) (ht : told R) : Inv acc { S with lt := S.lt ++ (List.range S.n).map (fun i => ⟨1, r, i, R.b, zB, zB, zB, [], R.v⟩) } := by
  refine inv_lt h (fun y hy => ?_)
  obtain ⟨i, hi, rfl⟩ := List.mem_map.1 hy
  exact ⟨R, hr, ⟨List.mem_range.1 hi, rfl, fun _ => ⟨ht, rfl⟩, (fun e => by cases e), (fun e => by cases e), (fun e => by cases e), by show 1 ≤ 4; omega⟩⟩
/-- An acceptance comes. -/
theorem inv_ac {acc : Nat → Nat → Prop} {S : Net} (h : Inv acc S) {l : Lt} {R : Rd} (hr : S.rd[l.r]? = some R) (hl : LtOK acc S l R) (hk : l.kd = 3) :
    Inv acc { S with rd := S.rd.set l.r (acS R (l.k : Int) l.b) } := by
  have hR := h.rok _ R hr
  have hA := hl.ac hk
  unfold acS
  cases hK : acK R (l.k : Int) l.b
  · rw [if_neg (by simp)]
    exact inv_rd h hr hR rfl (h.bn _ R hr).2 (fun t => ⟨t, rfl⟩) (fun k a m e => h.prs _ R k a m hr e) (fun k e => h.acs _ R k hr e)
  · rw [if_pos rfl]
    have h2 : R.st = 2 := by unfold acK at hK; rw [Bool.and_eq_true, decide_eq_true_eq] at hK; exact hK.2
    have ht := hR.s2 h2
    have hkl : l.k < R.ac.length := by rw [hR.ok.al, hR.eqn]; exact hl.kn
    have hac : ∀ k, (acP R (l.k : Int))[k]? = some true → acc k l.r := by
      intro k e
      unfold acP at e
      rw [Int.toNat_natCast] at e
      by_cases ec : k = l.k
      · subst ec; exact hA
      · rw [List.getElem?_set_ne (fun e' => ec e'.symm)] at e
        exact h.acs _ R k hr e
    by_cases hm : R.n < 2 * cntB (acP R (l.k : Int))
    · rw [if_pos hm]
      exact inv_rd h hr ⟨hR.eqn, hR.ok.acc _ 3, hR.vt, fun e => hR.vn e, fun e => (by cases e), fun e => (by cases e), fun _ => ⟨ht, hm⟩, by show 1 ≤ 3; omega, by show 3 ≤ 4; omega, hR.le, hR.asb, hR.nd0, hR.nd2, hR.lf0⟩ rfl (h.bn _ R hr).2 (fun t => ⟨t, rfl⟩) (fun k a m e => h.prs _ R k a m hr e) hac
    · rw [if_neg hm]
      exact inv_rd h hr ⟨hR.eqn, hR.ok.acc _ R.st, hR.vt, fun e => hR.vn e, hR.s1, hR.s2, fun e => (by rw [show ({ R with ac := acP R (l.k : Int) } : Rd).st = R.st from rfl, h2] at e; cases e), hR.lo, hR.hi, hR.le, hR.asb, hR.nd0, hR.nd2, hR.lf0⟩ rfl (h.bn _ R hr).2 (fun t => ⟨t, rfl⟩) (fun k a m e => h.prs _ R k a m hr e) hac
/-- A refusal comes. -/
theorem inv_rf {acc : Nat → Nat → Prop} {S : Net} (h : Inv acc S) {l : Lt} {R : Rd} (hr : S.rd[l.r]? = some R) (hl : LtOK acc S l R) (hk : l.kd = 4) :
    Inv acc { S with rd := S.rd.set l.r (rfS R (l.k : Int) l.b l.g) } := by
  have hR := h.rok _ R hr
  unfold rfS
  cases hK : rfB R (l.k : Int) l.b l.g
  · rw [if_neg (by simp)]
    exact inv_rd h hr hR rfl (h.bn _ R hr).2 (fun t => ⟨t, rfl⟩) (fun k a m e => h.prs _ R k a m hr e) (fun k e => h.acs _ R k hr e)
  · rw [if_pos rfl]
    exact inv_rd h hr ⟨hR.eqn, hR.ok.lost 4 _, hR.vt, fun e => hR.vn e, fun e => (by cases e), fun e => (by cases e), fun e => (by cases e), by show 1 ≤ 4; omega, by show 4 ≤ 4; omega, hR.le, hR.asb, hR.nd0, hR.nd2, hR.lf0⟩ rfl (hl.gn hk) (fun t => ⟨t, rfl⟩) (fun k a m e => h.prs _ R k a m hr e) (fun k e => h.acs _ R k hr e)
end Go.Proofs.Ytodmhohccclhmaa
namespace Go.Proofs.Ytodmhohccclhmaa
set_option linter.unusedVariables false

def asks11 (r n : Nat) (b : Bt) : List Lt := (List.range n).map (fun k => ⟨0, r, k, b, zB, zB, zB, [], []⟩)
theorem not_told_new {n : Nat} {b : Bt} {c : Cg} : ¬ told (begR n b c) := by
  show ¬ n < 2 * cntO (List.replicate n none)
  unfold cntO
  rw [List.countP_replicate]
  simp
theorem rnd_new {n : Nat} {b : Bt} {c : Cg} (h : begOK (n : Int) b c = true) (h0 : 0 ≤ b.nd) (h2 : b.nd ≤ 2) (hl : b.lf = 0) : RndOK n (begR n b c) := by
  have hb : asB b = true := by unfold begOK at h; simp only [Bool.and_eq_true] at h; exact h.2.2.1
  exact ⟨rfl, begOK_rd h, fun t => absurd t not_told_new, fun _ => rfl, fun _ => not_told_new, fun e => (by cases e), fun e => (by cases e), Nat.le_refl _, by show 1 ≤ 4; omega, by show 0 ≤ 32; omega, hb, h0, h2, hl⟩
/-- A new round. -/
theorem inv_begin {acc : Nat → Nat → Prop} {S : Net} (h : Inv acc S) {w : Nat} (hw : w < 3) {x top : Bt} (hx : S.la[w]? = some x) (ht : leK x top) (hn : top.n ≤ (S.rd.length : Int)) (h0 : 0 ≤ top.n) {c : Cg} (hc : gdG c = true) :
    begOK (S.n : Int) ⟨top.n + 1, (w : Int), 0⟩ c = true ∧ Inv acc { S with rd := S.rd ++ [begR S.n ⟨top.n + 1, (w : Int), 0⟩ c], la := S.la.set w ⟨top.n + 1, (w : Int), 0⟩, lt := S.lt ++ asks11 S.rd.length S.n ⟨top.n + 1, (w : Int), 0⟩ } := by
  obtain ⟨b, hb⟩ : ∃ b : Bt, b = ⟨top.n + 1, (w : Int), 0⟩ := ⟨_, rfl⟩
  have e1 : b.n = top.n + 1 := by rw [hb]
  have e2 : b.nd = (w : Int) := by rw [hb]
  have e3 : b.lf = 0 := by rw [hb]
  rw [← hb]
  have hlt : lt3 top b = true := by unfold lt3; exact decide_eq_true (.inl (by omega))
  have hasb : asB b = true := by
    unfold asB whB noB
    rw [decide_eq_true (by omega), decide_eq_false (by omega)]
    rfl
  have hok : begOK (S.n : Int) b c = true := by
    unfold begOK
    have := h.n1
    have := h.n5
    rw [decide_eq_true (by omega), decide_eq_true (by omega), hasb, hc]
    rfl
  refine ⟨hok, ?_⟩
  have hwl : w < S.la.length := by rw [h.ll]; exact hw
  have hold : ∀ (i : Nat) (R : Rd), S.rd[i]? = some R → (S.rd ++ [begR S.n b c])[i]? = some R := fun i R hi => by
    rw [List.getElem?_append_left (List.getElem?_eq_some_iff.1 hi).1]; exact hi
  have key : ∀ (i : Nat) (Q : Rd), (S.rd ++ [begR S.n b c])[i]? = some Q → S.rd[i]? = some Q ∨ (i = S.rd.length ∧ Q = begR S.n b c) := by
    intro i Q hi
    by_cases e : i < S.rd.length
    · rw [List.getElem?_append_left e] at hi; exact .inl hi
    · rw [List.getElem?_append_right (by omega)] at hi
      have h4 : i - S.rd.length = 0 := by have := (List.getElem?_eq_some_iff.1 hi).1; simp at this; omega
      rw [h4] at hi
      simp at hi
      exact .inr ⟨by omega, hi.symm⟩
  obtain ⟨S', hS'⟩ : ∃ S' : Net, S' = { S with rd := S.rd ++ [begR S.n b c], la := S.la.set w b } := ⟨_, rfl⟩
  have g : RGrow S S' := by
    rw [hS']
    refine ⟨fun j Q hQ => ⟨Q, hold j Q hQ, rfl, fun t => ⟨t, rfl⟩⟩, fun j Q' hQ' => ?_⟩
    rcases key j Q' hQ' with e | ⟨e, -⟩
    · exact .inl ⟨Q', e, rfl⟩
    · exact .inr (by rw [e]; exact List.getElem?_eq_none_iff.2 (Nat.le_refl _))
  have hlen : S'.rd.length = S.rd.length + 1 := by rw [hS']; simp
  have hI : Inv acc S' := by
    have k1 : ∀ (i : Nat) (Q : Rd), S'.rd[i]? = some Q → S.rd[i]? = some Q ∨ (i = S.rd.length ∧ Q = begR S.n b c) := by rw [hS']; exact key
    have eN : S'.n = S.n := by rw [hS']
    have eR : S'.rg = S.rg := by rw [hS']
    have eL : S'.la = S.la.set w b := by rw [hS']
    have eT : S'.lt = S.lt := by rw [hS']
    have pk : ∀ (c' : Nat) (R : Rd) (a : Bt) (l : List Int), Prom acc S c' R a l → Prom acc S' c' R a l := fun c' R a l hP =>
      hP.grow g rfl (fun y hy => ⟨y, by rw [eR] at hy; exact hy, leK_refl _⟩) (fun j Q hj _ => .inl hj) (fun j hj => h.accd _ j hj)
    have hnew : ∀ (R : Rd) (i : Nat), S.rd[i]? = some R → R.b ≠ b := by
      intro R i hi e
      by_cases en : R.b.nd = (w : Int)
      · have h5 := (h.las w x hx).2.2 i R hi en
        have h6 : lt3 R.b b = true := leK_lt (leK_trans h5 ht) hlt
        rw [e, lt3_self] at h6
        cases h6
      · exact en (by rw [e]; exact e2)
    refine ⟨by rw [eN]; exact h.n1, by rw [eN]; exact h.n5, by rw [eR, eN]; exact h.rl, by rw [eL, List.length_set]; exact h.ll, fun i Q hi => ?_, fun i Q hi => ?_, fun i j P Q hi hj e => ?_, fun v y hy => ?_, fun k y hy => ?_, fun k j hj => ?_, fun l hl => ?_, fun i Q k a l hi hk => ?_, fun i Q k hi hk => ?_⟩
    · rw [eN]
      rcases k1 i Q hi with e | ⟨-, rfl⟩
      · exact h.rok i Q e
      · exact rnd_new hok (by omega) (by omega) e3
    · rw [hlen]
      rcases k1 i Q hi with e | ⟨-, rfl⟩
      · have := h.bn i Q e; omega
      · refine ⟨by show b.n ≤ _; omega, by show (0 : Int) ≤ _; omega⟩
    · rcases k1 i P hi with e4 | ⟨e4, rfl⟩ <;> rcases k1 j Q hj with e5 | ⟨e5, rfl⟩
      · exact h.dis i j P Q e4 e5 e
      · exact absurd e (hnew P i e4)
      · exact absurd e.symm (hnew Q j e5)
      · omega
    · rw [hlen]
      rw [eL] at hy
      by_cases ev : v = w
      · subst ev
        rw [List.getElem?_set_self hwl] at hy
        cases hy
        refine ⟨by omega, by omega, fun i Q hi en => ?_⟩
        rcases k1 i Q hi with e | ⟨-, rfl⟩
        · exact leK_trans (leK_trans ((h.las v x hx).2.2 i Q e en) ht) (lt_leK hlt)
        · exact leK_refl _
      · rw [List.getElem?_set_ne (fun e' => ev e'.symm)] at hy
        obtain ⟨h5, h6, h7⟩ := h.las v y hy
        refine ⟨by omega, h6, fun i Q hi en => ?_⟩
        rcases k1 i Q hi with e | ⟨-, rfl⟩
        · exact h7 i Q e en
        · have en2 : b.nd = (v : Int) := en
          omega
    · rw [hlen]
      rw [eR] at hy
      obtain ⟨h5, h6, h7⟩ := h.rgd k y hy
      exact ⟨h5, by omega, h7.grow g⟩
    · obtain ⟨y, Q, h5, h6, h7, h8⟩ := h.acn k j hj
      exact ⟨y, Q, by rw [eR]; exact h5, by rw [hS']; exact hold j Q h6, h7, h8⟩
    · rw [eT] at hl
      obtain ⟨R, hR, ho⟩ := h.lts l hl
      exact ⟨R, by rw [hS']; exact hold _ R hR, ho.grow g eN rfl (fun t => ⟨t, rfl⟩) (by omega) (fun y hy => ⟨y, by rw [eR] at hy; exact hy, leK_refl _⟩) (fun _ j Q hj _ => .inl hj) (fun _ _ e => e) (fun j hj => h.accd _ j hj)⟩
    · rcases k1 i Q hi with e | ⟨-, rfl⟩
      · exact pk _ _ _ _ (h.prs i Q k a l e hk)
      · have := List.eq_of_mem_replicate (List.mem_of_getElem? hk)
        cases this
    · rcases k1 i Q hi with e | ⟨-, rfl⟩
      · exact h.acs i Q k e hk
      · have := List.eq_of_mem_replicate (List.mem_of_getElem? hk)
        cases this
  have h2 := inv_lt hI (ls := asks11 S.rd.length S.n b) (fun y hy => by
    obtain ⟨i, hi, rfl⟩ := List.mem_map.1 hy
    refine ⟨begR S.n b c, by rw [hS']; show (S.rd ++ [begR S.n b c])[S.rd.length]? = _; simp, ⟨by rw [hS']; exact List.mem_range.1 hi, rfl, (fun e => by cases e), (fun e => by cases e), (fun e => by cases e), (fun e => by cases e), by show 0 ≤ 4; omega⟩⟩)
  rw [hS'] at h2
  exact h2
/-- The net at the start. -/
def net0 (n : Nat) : Net := ⟨n, List.replicate n zR, [], List.replicate 3 zB, []⟩
theorem inv_0 (n : Nat) (h1 : 1 ≤ n) (h5 : n ≤ 5) : Inv (fun _ _ => False) (net0 n) := by
  refine ⟨h1, h5, by simp [net0], by simp [net0], fun i R hi => (by simp [net0] at hi), fun i R hi => (by simp [net0] at hi), fun i j R Q hi => (by simp [net0] at hi), fun w x hx => ?_, fun k x hx => ?_, fun k j e => e.elim, fun l hl => (by simp [net0] at hl), fun i R k a l hi => (by simp [net0] at hi), fun i R k hi => (by simp [net0] at hi)⟩
  · have := List.eq_of_mem_replicate (List.mem_of_getElem? hx)
    subst this
    exact ⟨by show (0 : Int) ≤ _; omega, by show (0 : Int) ≤ 0; omega, fun i R hi => (by simp [net0] at hi)⟩
  · have := List.eq_of_mem_replicate (List.mem_of_getElem? hx)
    subst this
    exact ⟨by decide, by show (0 : Int) ≤ _; omega, .inl ⟨rfl, rfl⟩⟩
/-- Is a value what a change makes of another one? -/
def aft (was : List Int) (c : Cg) (now : List Int) : Bool := if c.k = 2 ∧ was = c.o then decide (now = c.n) else decide (now = was)
theorem aft_do {c : Cg} (h : gdG c = true) (w : List Int) : aft w c (doL c w) = true := by
  unfold aft
  rcases gd_kind h with e | e
  · rw [if_neg (by omega), (do_read h e).2]; simp
  · by_cases ew : w = c.o
    · rw [if_pos ⟨e, ew⟩, (do_swap h e ew).2]; simp
    · rw [if_neg (fun x => ew x.2), (do_stale h e ew).2]; simp
/-- What RoundChains asks. -/
theorem chain_ok {acc : Nat → Nat → Prop} {S : Net} (h : Inv acc S) {i : Nat} {R : Rd} (hi : S.rd[i]? = some R) (hs : R.st ≠ 1) (h4 : R.st = 4 → R.v ≠ []) :
    (aft [] R.c R.v = true ∧ ∀ (d : Nat) (Q : Rd), S.rd[d]? = some Q → Q.st = 3 → lt3 Q.b R.b = false) ∨
    ∃ (j : Nat) (Q : Rd), S.rd[j]? = some Q ∧ Q.st ≠ 1 ∧ aft Q.v R.c R.v = true ∧ lt3 Q.b R.b = true ∧ ∀ (d : Nat) (D : Rd), S.rd[d]? = some D → D.st = 3 → lt3 D.b R.b = true → lt3 Q.b D.b = false := by
  have hR := h.rok i R hi
  have ht : told R := by
    by_cases e2 : R.st = 2
    · exact hR.s2 e2
    · by_cases e3 : R.st = 3
      · exact (hR.s3 e3).1
      · have e4 : R.st = 4 := by have := hR.lo; have := hR.hi; omega
        by_cases t : told R
        · exact t
        · exact absurd (hR.vn t) (h4 e4)
  rcases made h hi ht with ⟨e1, e2⟩ | ⟨j, Q, hj, hq, e1, e2, e3⟩
  · left
    refine ⟨?_, e2⟩
    rw [(hR.vt ht).1, e1]
    exact aft_do hR.ok.gd []
  · right
    refine ⟨j, Q, hj, fun e => (h.rok j Q hj).s1 e hq, ?_, e2, e3⟩
    rw [(hR.vt ht).1, e1]
    exact aft_do hR.ok.gd Q.v
/-- Swaps of nothing. -/
def Swp (S : Net) : Prop := ∀ (i : Nat) (R : Rd), S.rd[i]? = some R → R.c.k = 2 ∧ R.c.o = [] ∧ R.c.n.length = 1
def rankB (b : Bt) : Nat := b.n.toNat * 3 + b.nd.toNat
theorem rank_lt {n : Nat} {P Q : Rd} (hP : RndOK n P) (hQ : RndOK n Q) (h : lt3 P.b Q.b = true) : rankB P.b < rankB Q.b := by
  have a1 := hP.asb
  have a2 := hQ.asb
  have w1 := (asB_open a1).1
  have w2 := (asB_open a2).1
  unfold whB at w1 w2
  rw [decide_eq_true_eq] at w1 w2
  have := hP.nd2
  have := hQ.nd2
  have := hP.lf0
  have := hQ.lf0
  unfold lt3 at h
  rw [decide_eq_true_eq] at h
  unfold rankB
  omega
theorem once_len {acc : Nat → Nat → Prop} {S : Net} (h : Inv acc S) (hs : Swp S) : ∀ (m : Nat) (i : Nat) (R : Rd), S.rd[i]? = some R → told R → rankB R.b < m → R.v.length = 1
  | 0, i, R, hi, ht, hm => by omega
  | m + 1, i, R, hi, ht, hm => by
    have hR := h.rok i R hi
    obtain ⟨c1, c2, c3⟩ := hs i R hi
    rw [(hR.vt ht).1]
    rcases made h hi ht with ⟨e1, -⟩ | ⟨j, Q, hj, hq, e1, e2, -⟩
    · rw [e1, (do_swap hR.ok.gd c1 c2.symm).2]; exact c3
    · rw [e1]
      have hl := once_len h hs m j Q hj hq (by have := rank_lt (h.rok j Q hj) hR e2; omega)
      have hne : Q.v ≠ R.c.o := by rw [c2]; intro e; rw [e] at hl; cases hl
      rw [(do_stale hR.ok.gd c1 hne).2]
      exact hl
theorem once_val {acc : Nat → Nat → Prop} {S : Net} (h : Inv acc S) (hs : Swp S) {d : Nat} {D : Rd} (hd : S.rd[d]? = some D) (h3 : D.st = 3) : ∀ (m : Nat) (i : Nat) (R : Rd), S.rd[i]? = some R → told R → lt3 D.b R.b = true → rankB R.b < m → R.v = D.v ∧ R.e ≠ 0
  | 0, i, R, hi, ht, hl, hm => by omega
  | m + 1, i, R, hi, ht, hl, hm => by
    have hR := h.rok i R hi
    obtain ⟨c1, c2, c3⟩ := hs i R hi
    rcases made h hi ht with ⟨-, e2⟩ | ⟨j, Q, hj, hq, e1, e2, e3⟩
    · have := e2 d D hd h3
      rw [hl] at this
      cases this
    · have hlen := once_len h hs (rankB Q.b + 1) j Q hj hq (by omega)
      have hne : Q.v ≠ R.c.o := by rw [c2]; intro e; rw [e] at hlen; cases hlen
      obtain ⟨v1, v2⟩ := hR.vt ht
      rw [e1, (do_stale hR.ok.gd c1 hne).2] at v1
      rw [e1, (do_stale hR.ok.gd c1 hne).1] at v2
      refine ⟨?_, by omega⟩
      rw [v1]
      have h4 := e3 d D hd h3 hl
      cases h5 : lt3 D.b Q.b
      · have hb : D.b = Q.b := leK_anti h4 h5
        have := h.dis d j D Q hd hj hb
        subst this
        rw [hd] at hj
        cases hj
        rfl
      · exact (once_val h hs hd h3 m j Q hj hq h5 (by have := rank_lt (h.rok j Q hj) hR e2; omega)).1
/-- What RoundOnce asks. -/
theorem once_ok {acc : Nat → Nat → Prop} {S : Net} (h : Inv acc S) (hs : Swp S) : (∀ (i : Nat) (R : Rd), S.rd[i]? = some R → R.st = 3 → R.v.length = 1) ∧ (∀ (i j : Nat) (R Q : Rd), S.rd[i]? = some R → S.rd[j]? = some Q → R.st = 3 → Q.st = 3 → R.v = Q.v) ∧ ∀ (i j : Nat) (R Q : Rd), S.rd[i]? = some R → S.rd[j]? = some Q → R.st = 3 → Q.st = 3 → R.e = 0 → Q.e = 0 → i = j := by
  refine ⟨fun i R hi h3 => once_len h hs (rankB R.b + 1) i R hi ((h.rok i R hi).s3 h3).1 (by omega), fun i j R Q hi hj h3 k3 => ?_, fun i j R Q hi hj h3 k3 e1 e2 => ?_⟩
  · have t1 := ((h.rok i R hi).s3 h3).1
    have t2 := ((h.rok j Q hj).s3 k3).1
    cases l1 : lt3 R.b Q.b
    · cases l2 : lt3 Q.b R.b
      · have := h.dis i j R Q hi hj (leK_anti l2 l1)
        subst this
        rw [hi] at hj
        cases hj
        rfl
      · exact (once_val h hs hj k3 (rankB R.b + 1) i R hi t1 l2 (by omega)).1
    · exact (once_val h hs hi h3 (rankB Q.b + 1) j Q hj t2 l1 (by omega)).1.symm
  · have t1 := ((h.rok i R hi).s3 h3).1
    have t2 := ((h.rok j Q hj).s3 k3).1
    cases l1 : lt3 R.b Q.b
    · cases l2 : lt3 Q.b R.b
      · exact h.dis i j R Q hi hj (leK_anti l2 l1)
      · exact absurd e1 (once_val h hs hj k3 (rankB R.b + 1) i R hi t1 l2 (by omega)).2
    · exact absurd e2 (once_val h hs hi h3 (rankB Q.b + 1) j Q hj t2 l1 (by omega)).2
end Go.Proofs.Ytodmhohccclhmaa
