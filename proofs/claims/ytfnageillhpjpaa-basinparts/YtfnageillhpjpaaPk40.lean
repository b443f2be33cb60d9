/-
  Plain mathematics of notes: their numbers, their bytes, which are in form. Nothing here names the program.
  Structs of numbers, and slices of them, in memory.
  Which notes are in form: note.isNode, shapeOf, fits.
  note.Check: which notes are in form.
  note.numsOf: a note's numbers.
  note.Encode.
  Parts of slices of numbers; note.placeOf, counted.
  Slices of structs that the call makes and writes; note.opsOf.
  note.entryOf.
  note.entriesOf.
  note.read: the note that has these numbers.
  note.Decode.
-/
import Derived.Test.YtfnageillhpjpaaPk24
import Derived.Test.YtfnageillhpjpaaPk38
import Derived.Test.YtfnageillhpjpaaPk37
import Derived.Test.YtfnageillhpjpaaPk11
import Derived.Deep.MidRow
import Derived.BigQuiet
namespace Go.Proofs.Ytfnageillhpjpaa
set_option maxRecDepth 100000
open Go.RowKit
set_option linter.unusedVariables false

/-- A note. -/
structure Nt where
  k : Int
  f : Int
  t : Int
  ns : List Int
  os : List (Nat → Int)
  es : List (Nat → Int)
def opNt (o : Nat → Int) : List Int := [o 0, o 1, o 2, o 3, o 4]
def cE (e : Nat → Int) : Nat → Int := fun i => e (2 + i)
def enN (e : Nat → Int) : List Int := e 0 :: e 1 :: numsF (cE e)
/-- A note's numbers. -/
def tailN (es : List (Nat → Int)) : List Int := (es.length : Int) :: es.flatMap enN
def midN (os : List (Nat → Int)) (es : List (Nat → Int)) : List Int := (os.length : Int) :: (os.flatMap opNt ++ tailN es)
def numsN (N : Nt) : List Int := N.k :: N.f :: N.t :: (N.ns.length : Int) :: (N.ns ++ midN N.os N.es)
/-- A note's bytes. -/
def bysN (N : Nt) : List Nat := frm (numsB (numsN N))

def WO (o : Nat → Int) : Prop := ∀ i, i < 5 → Fit (o i)
def WE (e : Nat → Int) : Prop := Fit (e 0) ∧ Fit (e 1) ∧ Wf (cE e)
structure WN (N : Nt) : Prop where
  k : Fit N.k
  f : Fit N.f
  t : Fit N.t
  ns : In64 N.ns
  os : ∀ o ∈ N.os, WO o
  es : ∀ e ∈ N.es, WE e

/-- The same elements. -/
def EqL (k : Nat) (l m : List (Nat → Int)) : Prop := l.length = m.length ∧ ∀ (j : Nat) (a b : Nat → Int), l[j]? = some a → m[j]? = some b → ∀ i, i < k → a i = b i
theorem EqL.refl (k : Nat) (l : List (Nat → Int)) : EqL k l l := ⟨rfl, fun j a b h1 h2 i _ => by rw [h1] at h2; cases h2; rfl⟩
theorem EqL.symm {k : Nat} {l m : List (Nat → Int)} (h : EqL k l m) : EqL k m l := ⟨h.1.symm, fun j a b h1 h2 i hi => (h.2 j b a h2 h1 i hi).symm⟩
theorem EqL.cons {k : Nat} {a b : Nat → Int} {l m : List (Nat → Int)} (h : ∀ i, i < k → a i = b i) (hl : EqL k l m) : EqL k (a :: l) (b :: m) := by
  refine ⟨by simp [hl.1], fun j x y hx hy i hi => ?_⟩
  cases j with
  | zero => simp at hx hy; subst hx; subst hy; exact h i hi
  | succ j => exact hl.2 j x y (by simpa using hx) (by simpa using hy) i hi
structure SameN (A B : Nt) : Prop where
  k : A.k = B.k
  f : A.f = B.f
  t : A.t = B.t
  ns : A.ns = B.ns
  os : EqL 5 A.os B.os
  es : EqL 76 A.es B.es
theorem SameN.refl (A : Nt) : SameN A A := ⟨rfl, rfl, rfl, rfl, .refl _ _, .refl _ _⟩
theorem SameN.symm {A B : Nt} (h : SameN A B) : SameN B A := ⟨h.k.symm, h.f.symm, h.t.symm, h.ns.symm, h.os.symm, h.es.symm⟩

theorem opN_congr {a b : Nat → Int} (h : ∀ i, i < 5 → a i = b i) : opNt a = opNt b := by
  unfold opNt; rw [h 0 (by omega), h 1 (by omega), h 2 (by omega), h 3 (by omega), h 4 (by omega)]
theorem numsF_congr {a b : Nat → Int} (h : Eqv a b) : numsF a = numsF b := by
  have hp : pp (hf a) 65 = pp (hf b) 65 := pp_congr 65 (fun i hi => h (9 + i) (by omega))
  unfold numsF hdF
  rw [hp, h 0 (by omega), h 1 (by omega), h 2 (by omega), h 3 (by omega), h 4 (by omega), h 5 (by omega), h 6 (by omega), h 7 (by omega), h 8 (by omega)]
theorem enN_congr {a b : Nat → Int} (h : ∀ i, i < 76 → a i = b i) : enN a = enN b := by
  unfold enN
  rw [h 0 (by omega), h 1 (by omega), numsF_congr (a := cE a) (b := cE b) (fun i hi => h (2 + i) (by omega))]
theorem flatMap_eql {k : Nat} {F : (Nat → Int) → List Int} (hF : ∀ a b : Nat → Int, (∀ i, i < k → a i = b i) → F a = F b) : ∀ {l m : List (Nat → Int)}, EqL k l m → l.flatMap F = m.flatMap F
  | [], [], _ => rfl
  | [], _ :: _, h => by have := h.1; simp at this
  | _ :: _, [], h => by have := h.1; simp at this
  | a :: l, b :: m, h => by
    have h1 : EqL k l m := ⟨by simpa using h.1, fun j x y hx hy => h.2 (j + 1) x y (by simpa using hx) (by simpa using hy)⟩
    rw [List.flatMap_cons, List.flatMap_cons, flatMap_eql hF h1, hF a b (h.2 0 a b rfl rfl)]
theorem numsN_same {A B : Nt} (h : SameN A B) : numsN A = numsN B := by
  unfold numsN midN tailN
  rw [h.k, h.f, h.t, h.ns, h.os.1, h.es.1, flatMap_eql (fun _ _ => opN_congr) h.os, flatMap_eql (fun _ _ => enN_congr) h.es]
theorem bysN_same {A B : Nt} (h : SameN A B) : bysN A = bysN B := by unfold bysN; rw [numsN_same h]

/-! One form for each. -/
theorem numsF_pre {c d : Nat → Int} {X Y : List Int} (h : numsF c ++ X = numsF d ++ Y) : numsF c = numsF d ∧ X = Y := by
  have h9 : (pp (hf c) 65).length = (pp (hf d) 65).length := by
    have := congrArg (fun l : List Int => l.getD 9 0) h
    simp [numsF, hdF] at this
    omega
  exact List.append_inj h (by simp [numsF, hdF, flatP_len, h9])
theorem enN_pre {c d : Nat → Int} {X Y : List Int} (h : enN c ++ X = enN d ++ Y) : enN c = enN d ∧ X = Y := by
  unfold enN at h ⊢
  simp only [List.cons_append, List.cons.injEq] at h
  obtain ⟨h1, h2, h3⟩ := h
  obtain ⟨h4, h5⟩ := numsF_pre h3
  exact ⟨by rw [h1, h2, h4], h5⟩
theorem enN_inj {c d : Nat → Int} (hc : Wf (cE c)) (hd : Wf (cE d)) (h : enN c = enN d) : ∀ i, i < 76 → c i = d i := by
  unfold enN at h
  simp only [List.cons.injEq] at h
  obtain ⟨h1, h2, h3⟩ := h
  obtain ⟨p1, n1, g1, e1, q1⟩ := take_nums (cE c) hc []
  obtain ⟨p2, n2, g2, e2, q2⟩ := take_nums (cE d) hd []
  rw [List.append_nil] at p1 p2 q1 q2
  have hpp : pp (hf (cE c)) 65 = pp (hf (cE d)) 65 := by
    have a := p1.rest
    have b := p2.rest
    rw [h3] at a
    rw [a] at b
    simp only [List.append_nil] at b
    exact flatP_inj _ _ b
  rw [hpp, e2] at e1
  cases e1
  rw [h3] at q1
  intro i hi
  match i, hi with
  | 0, _ => exact h1
  | 1, _ => exact h2
  | j + 2, hi =>
    have := (q1 j (by omega)).symm.trans (q2 j (by omega))
    unfold cE at this
    rwa [Nat.add_comm 2 j] at this
theorem opN_pre {c d : Nat → Int} {X Y : List Int} (h : opNt c ++ X = opNt d ++ Y) : (∀ i, i < 5 → c i = d i) ∧ X = Y := by
  unfold opNt at h
  simp only [List.cons_append, List.nil_append, List.cons.injEq] at h
  obtain ⟨h0, h1, h2, h3, h4, h5⟩ := h
  refine ⟨fun i hi => ?_, h5⟩
  match i, hi with
  | 0, _ => exact h0
  | 1, _ => exact h1
  | 2, _ => exact h2
  | 3, _ => exact h3
  | 4, _ => exact h4
theorem ops_pre : ∀ {l m : List (Nat → Int)} {X Y : List Int}, l.length = m.length → l.flatMap opNt ++ X = m.flatMap opNt ++ Y → EqL 5 l m ∧ X = Y
  | [], [], X, Y, _, h => ⟨.refl _ _, by simpa using h⟩
  | [], _ :: _, _, _, h, _ => by simp at h
  | _ :: _, [], _, _, h, _ => by simp at h
  | a :: l, b :: m, X, Y, h, e => by
    rw [List.flatMap_cons, List.flatMap_cons, List.append_assoc, List.append_assoc] at e
    obtain ⟨h1, h2⟩ := opN_pre e
    obtain ⟨h3, h4⟩ := ops_pre (by simpa using h) h2
    exact ⟨h3.cons h1, h4⟩
theorem ents_pre : ∀ {l m : List (Nat → Int)} {X Y : List Int}, l.length = m.length → (∀ e ∈ l, WE e) → (∀ e ∈ m, WE e) → l.flatMap enN ++ X = m.flatMap enN ++ Y → EqL 76 l m ∧ X = Y
  | [], [], X, Y, _, _, _, h => ⟨.refl _ _, by simpa using h⟩
  | [], _ :: _, _, _, h, _, _, _ => by simp at h
  | _ :: _, [], _, _, h, _, _, _ => by simp at h
  | a :: l, b :: m, X, Y, h, wl, wm, e => by
    rw [List.flatMap_cons, List.flatMap_cons, List.append_assoc, List.append_assoc] at e
    obtain ⟨h1, h2⟩ := enN_pre e
    obtain ⟨h3, h4⟩ := ents_pre (by simpa using h) (fun x hx => wl x (by simp [hx])) (fun x hx => wm x (by simp [hx])) h2
    exact ⟨h3.cons (enN_inj (wl a (by simp)).2.2 (wm b (by simp)).2.2 h1), h4⟩
theorem numsN_inj {A B : Nt} (hA : WN A) (hB : WN B) (h : numsN A = numsN B) : SameN A B := by
  unfold numsN at h
  simp only [List.cons.injEq] at h
  obtain ⟨h1, h2, h3, h4, h5⟩ := h
  obtain ⟨h6, h7⟩ := List.append_inj h5 (by omega)
  unfold midN at h7
  simp only [List.cons.injEq] at h7
  obtain ⟨h8, h9⟩ := h7
  obtain ⟨h10, h11⟩ := ops_pre (by omega) h9
  unfold tailN at h11
  simp only [List.cons.injEq] at h11
  obtain ⟨h12, h13⟩ := h11
  obtain ⟨h14, _⟩ := ents_pre (X := []) (Y := []) (by omega) hA.es hB.es (by simpa using h13)
  exact ⟨h1, h2, h3, h6, h10, h14⟩

/-- What nus reads is, written again, the same. -/
theorem nus_back (l : List Nat) (hb : Byt l) : ∀ r, nus l = some r → numsB r = l ∧ In64 r ∧ r.length ≤ l.length := by
  induction hn : l.length using Nat.strongRecOn generalizing l with
  | _ n ih =>
    intro r hr
    by_cases h0 : l = []
    · subst h0
      rw [nus_nil] at hr
      cases hr
      exact ⟨rfl, fun x hx => (by cases hx), by simp⟩
    · cases hok : nOK l with
      | false => rw [nus_no h0 hok] at hr; cases hr
      | true =>
        rw [nus_go hok] at hr
        obtain ⟨r', h1, rfl⟩ := Option.map_eq_some_iff.1 hr
        have hs := nS_le hok
        have hld : (l.drop (nS l)).length = l.length - nS l := by rw [List.length_drop]
        obtain ⟨h2, h3, h4⟩ := ih (l.drop (nS l)).length (by omega) (l.drop (nS l)) (hb.drop _) rfl r' h1
        refine ⟨?_, fun x hx => ?_, by rw [List.length_cons]; omega⟩
        · show numB (nV l) ++ numsB r' = l
          rw [h2, num_back hb hok, List.take_append_drop]
        · rcases List.mem_cons.1 hx with rfl | hx
          · exact unz_in _ (nVal_lt hb ((nOK_iff l).1 hok).2.1)
          · exact h3 x hx
theorem numsB_inj {a b : List Int} (ha : In64 a) (hb : In64 b) (h : numsB a = numsB b) : a = b := by
  have := nus_put a ha
  rw [h, nus_put b hb] at this
  exact (Option.some.inj this).symm

theorem numsF_fit {c : Nat → Int} (hc : Wf c) : In64 (numsF c) := by
  have hpp : ∀ k, k ≤ 65 → ∀ p ∈ pp (hf c) k, Fit p.1 ∧ Fit p.2 := by
    intro k
    induction k with
    | zero => intro _ p hp; simp [pp] at hp
    | succ k ih =>
      intro hk p hp
      unfold pp at hp
      split at hp
      · exact ih (by omega) p hp
      · rcases List.mem_append.1 hp with h | h
        · exact ih (by omega) p h
        · simp at h
          subst h
          exact ⟨⟨by show (-9223372036854775808 : Int) ≤ (k : Int); omega, by show (k : Int) ≤ 9223372036854775807; omega⟩, hc.2 (9 + k) (by omega) (by omega)⟩
  intro x hx
  unfold numsF at hx
  rcases List.mem_append.1 hx with h | h
  · unfold hdF at h
    have hl := pp_len (hf c) 65
    simp only [List.mem_cons, List.not_mem_nil, or_false] at h
    rcases h with rfl | rfl | rfl | rfl | rfl | rfl | rfl | rfl | rfl | rfl
    · exact hc.2 0 (by omega) (by omega)
    · exact hc.2 1 (by omega) (by omega)
    · unfold wrap64; omega
    · exact hc.2 3 (by omega) (by omega)
    · exact hc.2 4 (by omega) (by omega)
    · exact hc.2 5 (by omega) (by omega)
    · exact hc.2 6 (by omega) (by omega)
    · exact hc.2 7 (by omega) (by omega)
    · exact hc.2 8 (by omega) (by omega)
    · omega
  · unfold flatP at h
    obtain ⟨p, hp, h⟩ := List.mem_flatMap.1 h
    have := hpp 65 (by omega) p hp
    simp at h
    rcases h with rfl | rfl
    · exact this.1
    · exact this.2
theorem numsN_fit {N : Nt} (h : WN N) (h1 : N.ns.length ≤ 1000000) (h2 : N.os.length ≤ 1000000) (h3 : N.es.length ≤ 1000000) : In64 (numsN N) := by
  intro x hx
  unfold numsN midN tailN at hx
  simp only [List.mem_cons, List.mem_append] at hx
  rcases hx with rfl | rfl | rfl | rfl | hx | rfl | hx | rfl | hx
  · exact h.k
  · exact h.f
  · exact h.t
  · omega
  · exact h.ns x hx
  · omega
  · obtain ⟨o, ho, hx⟩ := List.mem_flatMap.1 hx
    have := h.os o ho
    unfold opNt at hx
    simp at hx
    rcases hx with rfl | rfl | rfl | rfl | rfl
    · exact this 0 (by omega)
    · exact this 1 (by omega)
    · exact this 2 (by omega)
    · exact this 3 (by omega)
    · exact this 4 (by omega)
  · omega
  · obtain ⟨e, he, hx⟩ := List.mem_flatMap.1 hx
    obtain ⟨w0, w1, w2⟩ := h.es e he
    unfold enN at hx
    rcases List.mem_cons.1 hx with rfl | hx
    · exact w0
    · rcases List.mem_cons.1 hx with rfl | hx
      · exact w1
      · exact numsF_fit w2 x hx

/-! Which notes are in form. -/
def FitK (k : Int) (n o e : Nat) : Prop :=
  ((k = 1 ∨ k = 4 ∨ k = 9) ∧ n = 4 ∧ o = 0 ∧ e = 0) ∨ (k = 2 ∧ 7 ≤ n ∧ n ≤ 39 ∧ o = 0 ∧ e = 0) ∨ (k = 3 ∧ 4 ≤ n ∧ n ≤ 36 ∧ o = 0 ∧ e = 0) ∨ (k = 5 ∧ n = 7 ∧ o = 0 ∧ e = 0) ∨
  (k = 6 ∧ 1 ≤ n ∧ n ≤ 25 ∧ n % 2 = 1 ∧ o = 0 ∧ e = 0) ∨ (k = 7 ∧ 2 ≤ n ∧ n ≤ 26 ∧ n % 2 = 0 ∧ o ≤ 16 ∧ e = 0) ∨ (k = 8 ∧ n = 6 ∧ o = 0 ∧ e ≤ 16)
structure GoodN (N : Nt) : Prop where
  f : 0 ≤ N.f ∧ N.f ≤ 999
  t : 0 ≤ N.t ∧ N.t ≤ 999
  fit : FitK N.k N.ns.length N.os.length N.es.length
  os : ∀ o ∈ N.os, o 1 = 1 ∨ o 1 = 2
theorem fitK_le {k : Int} {n o e : Nat} (h : FitK k n o e) : 1 ≤ k ∧ k ≤ 9 ∧ n ≤ 39 ∧ o ≤ 16 ∧ e ≤ 16 ∧ (0 < o → n ≤ 26 ∧ e = 0) ∧ (0 < e → n = 6 ∧ o = 0) := by
  unfold FitK at h; omega
theorem GoodN.same {A B : Nt} (h : SameN A B) (g : GoodN A) : GoodN B := by
  refine ⟨by rw [← h.f]; exact g.f, by rw [← h.t]; exact g.t, by rw [← h.k, ← h.ns, ← h.os.1, ← h.es.1]; exact g.fit, fun o ho => ?_⟩
  obtain ⟨j, hj⟩ := List.getElem?_of_mem ho
  have hlt := (List.getElem?_eq_some_iff.1 hj).1
  have hA : A.os[j]? = some (A.os[j]'(by rw [h.os.1]; exact hlt)) := List.getElem?_eq_getElem _
  have := h.os.2 j _ o hA hj 1 (by omega)
  rw [← this]
  exact g.os _ (List.mem_of_getElem? hA)

/-! How long a note's bytes are. -/
theorem leB_small (u : Nat) (h : u < 256) : (leB 8 u).length ≤ 1 := by
  have h1 := leB_le 8 u
  by_cases h0 : u = 0
  · subst h0; decide
  · unfold leB
    rw [if_neg h0]
    have : u / 256 = 0 := by omega
    rw [this]
    simp [leB]
theorem numB_small (n : Int) (h0 : 0 ≤ n) (h1 : n < 128) : (numB n).length ≤ 2 := by
  have : zig n < 256 := by unfold zig; rw [if_neg (by omega)]; omega
  have := leB_small (zig n) this
  simp [numB]; omega
theorem numsB_append (a b : List Int) : numsB (a ++ b) = numsB a ++ numsB b := by simp [numsB]
theorem numsB_cons (a : Int) (b : List Int) : numsB (a :: b) = numB a ++ numsB b := by simp [numsB]
theorem pp_bytes (h : Nat → Int) : ∀ k, k ≤ 65 → (numsB (flatP (pp h k))).length ≤ 11 * k
  | 0, _ => by simp [pp, flatP, numsB]
  | k + 1, hk => by
    have ih := pp_bytes h k (by omega)
    unfold pp
    split
    · omega
    · rw [flatP_snoc, numsB_append, numsB_cons, numsB_cons]
      have a := numB_small (k : Int) (by omega) (by omega)
      have b := (numB_len (h k)).1
      simp only [List.length_append]
      have : (numsB []).length = 0 := rfl
      omega
theorem numsF_bytes (c : Nat → Int) : (numsB (numsF c)).length ≤ 805 := by
  unfold numsF
  rw [numsB_append, List.length_append]
  have h1 := pp_bytes (hf c) 65 (by omega)
  have h2 := numsB_len (hdF c ((pp (hf c) 65).length : Int))
  have h3 : (hdF c ((pp (hf c) 65).length : Int)).length = 10 := rfl
  omega
theorem enN_bytes (e : Nat → Int) : (numsB (enN e)).length ≤ 823 := by
  unfold enN
  rw [numsB_cons, numsB_cons, List.length_append, List.length_append]
  have := numsF_bytes (cE e)
  have := (numB_len (e 0)).1
  have := (numB_len (e 1)).1
  omega
theorem ents_bytes : ∀ es : List (Nat → Int), (numsB (es.flatMap enN)).length ≤ 823 * es.length
  | [] => by simp [numsB]
  | e :: es => by
    have := ents_bytes es
    have := enN_bytes e
    rw [List.flatMap_cons, numsB_append, List.length_append, List.length_cons]
    omega
theorem ops_bytes : ∀ os : List (Nat → Int), (os.flatMap opNt).length = 5 * os.length
  | [] => rfl
  | o :: os => by
    have := ops_bytes os
    rw [List.flatMap_cons, List.length_append, List.length_cons, this]
    simp [opNt]; omega
/-- Every note in form has bytes. -/
theorem good_fits {N : Nt} (g : GoodN N) : (numsB (numsN N)).length ≤ 16376 := by
  have h := fitK_le g.fit
  unfold numsN midN tailN
  simp only [numsB_cons, numsB_append, List.length_append]
  have h1 := (numB_len N.k).1
  have h2 := (numB_len N.f).1
  have h3 := (numB_len N.t).1
  have h4 := (numB_len (N.ns.length : Int)).1
  have h5 := (numB_len (N.os.length : Int)).1
  have h6 := (numB_len (N.es.length : Int)).1
  have h7 := numsB_len N.ns
  have h8 := numsB_len (N.os.flatMap opNt)
  rw [ops_bytes] at h8
  have h9 := ents_bytes N.es
  omega
theorem ents_count : ∀ es : List (Nat → Int), (es.flatMap enN).length ≤ 142 * es.length ∧ 12 * es.length ≤ (es.flatMap enN).length
  | [] => by simp
  | e :: es => by
    have := ents_count es
    have := numsF_len (cE e)
    rw [List.flatMap_cons, List.length_append, List.length_cons]
    have : (enN e).length = 2 + (numsF (cE e)).length := by simp [enN]; omega
    omega
theorem numsN_len (N : Nt) : (numsN N).length = 6 + N.ns.length + 5 * N.os.length + (N.es.flatMap enN).length := by
  unfold numsN midN tailN
  simp only [List.length_cons, List.length_append, ops_bytes]
  omega
theorem good_count {N : Nt} (g : GoodN N) : (numsN N).length ≤ 4000 := by
  have h := fitK_le g.fit
  have := ents_count N.es
  rw [numsN_len]
  omega
theorem frm_inj {a b : List Nat} (ha : a.length ≤ 16376) (hb : b.length ≤ 16376) (h : frm a = frm b) : a = b := by
  have h1 := (ins_frm a [] ha).2
  have h2 := (ins_frm b [] hb).2
  rw [List.append_nil] at h1 h2
  rw [← h1, ← h2, h]
theorem bysN_inj {A B : Nt} (hA : WN A) (hB : WN B) (gA : GoodN A) (gB : GoodN B) (h : bysN A = bysN B) : SameN A B := by
  have a := fitK_le gA.fit
  have b := fitK_le gB.fit
  refine numsN_inj hA hB (numsB_inj (numsN_fit hA (by omega) (by omega) (by omega)) (numsN_fit hB (by omega) (by omega) (by omega)) ?_)
  exact frm_inj (good_fits gA) (good_fits gB) h
end Go.Proofs.Ytfnageillhpjpaa
namespace Go.Proofs.Ytfnageillhpjpaa
set_option maxRecDepth 100000
open Go.RowKit Go.Shelf
set_option linter.unusedVariables false

/-- The cells of a struct of numbers. -/
def AG (k : Nat) (ks : Nat → IntKind) (c : Nat → Int) : Array Value := ((List.range k).map fun i => Value.int (ks i) (c i)).toArray
def k64 : Nat → IntKind := fun _ => .i64
def ek (i : Nat) : IntKind := if i = 4 then .u64 else .i64
theorem AG_size (k : Nat) (ks : Nat → IntKind) (c : Nat → Int) : (AG k ks c).size = k := by simp [AG]
theorem AG_len (k : Nat) (ks : Nat → IntKind) (c : Nat → Int) : (AG k ks c).toList.length = k := by simp [AG]
theorem AG_at (k : Nat) (ks : Nat → IntKind) (c : Nat → Int) (i : Nat) (h : i < k) : (AG k ks c).toList[i]? = some (.int (ks i) (c i)) := by simp [AG, h]
theorem AG_congr {k : Nat} {ks : Nat → IntKind} {c d : Nat → Int} (h : ∀ i, i < k → c i = d i) : AG k ks c = AG k ks d := by
  unfold AG
  congr 1
  exact List.map_congr_left fun i hi => by rw [h i (List.mem_range.1 hi)]
theorem AG_one (k : Nat) (ks : Nat → IntKind) (c : Nat → Int) : ∀ u ∈ (AG k ks c).toList, u.oneCell' = true := by
  intro u hu
  simp [AG] at hu
  obtain ⟨i, _, rfl⟩ := hu
  rfl
abbrev EA (e : Nat → Int) : Array Value := AG 76 ek e
abbrev OA (o : Nat → Int) : Array Value := AG 5 k64 o

/-- A row of structs. -/
def StRow (k : Nat) (ks : Nat → IntKind) (W : World) (g off : Nat) (l : List (Nat → Int)) : Prop := ∀ j c, l[j]? = some c → W.rangeAt g (off + j * k) (AG k ks c).toList
/-- A slice of structs. -/
def SR (k : Nat) (ks : Nat → IntKind) (W : World) (v : Value) (l : List (Nat → Int)) : Prop := ∃ q cap g off, v = .slice q l.length cap ∧ l.length ≤ cap ∧ cap ≤ 9223372036854775807 ∧ (0 < l.length → q = some ⟨g, off, none⟩) ∧ (0 < l.length → g < W.heap.size) ∧ StRow k ks W g off l
theorem StRow.keep {k : Nat} {ks : Nat → IntKind} {W W' : World} {g off : Nat} {l : List (Nat → Int)} (h : StRow k ks W g off l) (hg : 0 < l.length → g < W.heap.size) (hb : Below W.heap.size W W') : StRow k ks W' g off l := by
  intro j c hj i v hv
  have hlt := hg (by have := (List.getElem?_eq_some_iff.1 hj).1; omega)
  exact (hb.cell (p := ⟨g, _, none⟩) hlt).trans (h j c hj i v hv)
theorem SR.keep {k : Nat} {ks : Nat → IntKind} {W W' : World} {v : Value} {l : List (Nat → Int)} (h : SR k ks W v l) (hb : Below W.heap.size W W') : SR k ks W' v l := by
  obtain ⟨q, cap, g, off, h1, h2, h3, h4, h5, h6⟩ := h
  exact ⟨q, cap, g, off, h1, h2, h3, h4, fun h => Nat.lt_of_lt_of_le (h5 h) hb.size, h6.keep h5 hb⟩
theorem SR.nil (k : Nat) (ks : Nat → IntKind) (W : World) : SR k ks W (.slice none 0 0) [] := ⟨none, 0, 0, 0, rfl, Nat.le_refl _, by omega, fun h => absurd h (by simp), fun h => absurd h (by simp), fun j c h => by simp at h⟩
theorem SR.congr {k : Nat} {ks : Nat → IntKind} {W : World} {v : Value} {l m : List (Nat → Int)} (h : SR k ks W v l) (he : EqL k l m) : SR k ks W v m := by
  obtain ⟨q, cap, g, off, h1, h2, h3, h4, h5, h6⟩ := h
  rw [he.1] at h1 h2 h4 h5
  refine ⟨q, cap, g, off, h1, h2, h3, h4, h5, fun j c hj => ?_⟩
  have hlt : j < l.length := by have := (List.getElem?_eq_some_iff.1 hj).1; rw [he.1]; exact this
  have := h6 j _ (List.getElem?_eq_getElem hlt)
  rwa [AG_congr (he.2 j _ c (List.getElem?_eq_getElem hlt) hj)] at this
def flatA (k : Nat) (ks : Nat → IntKind) (l : List (Nat → Int)) : List Value := l.flatMap fun c => (AG k ks c).toList
theorem flatA_len (k : Nat) (ks : Nat → IntKind) : ∀ l, (flatA k ks l).length = l.length * k
  | [] => by simp [flatA]
  | c :: l => by
    have := flatA_len k ks l
    unfold flatA at this ⊢
    rw [List.flatMap_cons, List.length_append, this, AG_len, List.length_cons, Nat.add_mul, Nat.one_mul, Nat.add_comm]
theorem flatA_append (k : Nat) (ks : Nat → IntKind) (l m : List (Nat → Int)) : flatA k ks l ++ flatA k ks m = flatA k ks (l ++ m) := by simp [flatA]
theorem flatA_one (k : Nat) (ks : Nat → IntKind) (l : List (Nat → Int)) : ∀ u ∈ flatA k ks l, u.oneCell' = true := by
  intro u hu
  obtain ⟨c, _, h⟩ := List.mem_flatMap.1 hu
  exact AG_one k ks c u h
theorem flatA_at (k : Nat) (ks : Nat → IntKind) : ∀ (l : List (Nat → Int)) (j : Nat) (c : Nat → Int), l[j]? = some c → ∀ i v, (AG k ks c).toList[i]? = some v → (flatA k ks l)[j * k + i]? = some v
  | [], j, c, h, _, _, _ => by simp at h
  | d :: l, 0, c, h, i, v, hv => by
    simp at h
    subst h
    have hlt := (List.getElem?_eq_some_iff.1 hv).1
    unfold flatA
    rw [List.flatMap_cons, Nat.zero_mul, Nat.zero_add, List.getElem?_append_left hlt, hv]
  | d :: l, j + 1, c, h, i, v, hv => by
    have := flatA_at k ks l j c (by simpa using h) i v hv
    unfold flatA at this ⊢
    rw [List.flatMap_cons, List.getElem?_append_right (by rw [AG_len, Nat.add_mul]; omega), AG_len, ← this]
    congr 1
    rw [Nat.add_mul]; omega
theorem flatA_div (k : Nat) (ks : Nat → IntKind) (hk : 0 < k) (l : List (Nat → Int)) (j : Nat) (u : Value) (h : (flatA k ks l)[j]? = some u) : ∃ c, l[j / k]? = some c ∧ (AG k ks c).toList[j % k]? = some u := by
  have hlt := (List.getElem?_eq_some_iff.1 h).1
  rw [flatA_len] at hlt
  have hj : j / k < l.length := Nat.div_lt_of_lt_mul (by rwa [Nat.mul_comm])
  refine ⟨_, List.getElem?_eq_getElem hj, ?_⟩
  have hm : j % k < k := Nat.mod_lt _ hk
  have := flatA_at k ks l (j / k) _ (List.getElem?_eq_getElem hj) (j % k) _ (AG_at k ks _ _ hm)
  rw [Nat.mul_comm, Nat.div_add_mod, h] at this
  rw [AG_at k ks _ _ hm, this]
/-- A slice of structs of the call's own. -/
def SO (e : TypeId) (k : Nat) (ks : Nat → IntKind) (W : World) (base : Nat) (v : Value) (l : List (Nat → Int)) : Prop := W.ownsRow base e k v l.length (flatA k ks l)
theorem SO.sr {e : TypeId} {k : Nat} {ks : Nat → IntKind} {W : World} {base : Nat} {v : Value} {l : List (Nat → Int)} (h : SO e k ks W base v l) (hk : 0 < k) : SR k ks W v l := by
  obtain ⟨h1, q, g, cap, h2, h3, h4, h5, h6, h7, h8, hc, h9⟩ := own_open h hk
  refine ⟨q, cap, g, 0, h2, h7, h8, h3, h4, fun j c hj i v hv => ?_⟩
  rw [Nat.zero_add]
  exact hc _ _ (flatA_at k ks l j c hj i v hv)
theorem so_of {e : TypeId} {k : Nat} {ks : Nat → IntKind} {W : World} {base n : Nat} {v : Value} {l : List (Nat → Int)} (h : W.ownsRow base e k v n (flatA k ks l)) (hk : 0 < k) : SO e k ks W base v l := by
  have := h.1
  rw [flatA_len] at this
  have hn : l.length = n := Nat.eq_of_mul_eq_mul_right hk this
  unfold SO
  rwa [hn]
theorem SO.keep {e : TypeId} {k : Nat} {ks : Nat → IntKind} {W W' : World} {base : Nat} {v : Value} {l : List (Nat → Int)} (h : SO e k ks W base v l) (hb : Below W.heap.size W W') : SO e k ks W' base v l := own_keep h hb
theorem SR.src {k : Nat} {ks : Nat → IntKind} {W : World} {v : Value} {l : List (Nat → Int)} (h : SR k ks W v l) (hk : 0 < k) : ∃ q cap, v = .slice q l.length cap ∧ (q = none → l.length = 0) ∧ (∀ ad, q = some ad → ∀ j u, (flatA k ks l)[j]? = some u → W.cell? (ad.add j) = some u) := by
  obtain ⟨q, cap, g, off, h1, h2, h3, h4, h5, h6⟩ := h
  refine ⟨q, cap, h1, fun hq => ?_, fun ad had j u hu => ?_⟩
  · by_cases h0 : 0 < l.length
    · have := h4 h0; rw [hq] at this; cases this
    · omega
  · obtain ⟨c, hc, hu'⟩ := flatA_div k ks hk l j u hu
    have h0 : 0 < l.length := Nat.lt_of_le_of_lt (Nat.zero_le _) (List.getElem?_eq_some_iff.1 hc).1
    have := h4 h0
    rw [had] at this
    cases this
    have := h6 _ c hc _ u hu'
    rw [Addr.add_mid]
    rwa [Nat.add_assoc, Nat.mul_comm, Nat.div_add_mod] at this

/-- A note in memory. -/
structure NV (W : World) (x : Value) (N : Nt) (vn vo ve : Value) : Prop where
  eq : x = .agg #[.int .i64 N.k, .int .i64 N.f, .int .i64 N.t, vn, vo, ve]
  ns : Is W vn N.ns
  os : SR 5 k64 W vo N.os
  es : SR 76 ek W ve N.es
theorem NV.keep {W W' : World} {x : Value} {N : Nt} {vn vo ve : Value} (h : NV W x N vn vo ve) (hb : Below W.heap.size W W') : NV W' x N vn vo ve := ⟨h.eq, h.ns.keep hb, h.os.keep hb, h.es.keep hb⟩

section
variable {ops : Array Oper} {rest : List Oper} {o : Oper} {a : Act} {w : World} {Q : Exit → Act → World → Prop}
theorem info_ent (e : Nat → Int) : (Try.prog.info? 90).map (·.size) = some (EA e).size := by rw [AG_size]; kernel_rfl
theorem zero_ent (w : World) : (zeroValue 90).run Try.prog w = .ok (.agg (EA zc)) w := by kernel_rfl
theorem ld_ent (hgd : o.guard = none) {x : Operand} (ho : o.op = .load 90 x) {b q : Nat} {c : Nat → Int} (hr : w.rangeAt b q (EA c).toList) (hx : a.eval x = .pointer (some ⟨b, q, none⟩))
    (h : wpList Try.prog ops Q rest (a.put o.dst (.agg (EA c))) w) : wpList Try.prog ops Q (o :: rest) a w := by
  refine wpList_load_mid hgd _ x ho b q hx _ _ hr Try.underlying90 rfl ?_ (by simpa using h)
  rw [info_ent c]; simp
theorem infoOp : (Try.prog.info? 27).map (fun i => (i.zero, i.size, i.bytes)) = some (some (.agg (OA zc)), 5, 40) := by kernel_rfl
theorem infoEnt : (Try.prog.info? 90).map (fun i => (i.zero, i.size, i.bytes)) = some (some (.agg (EA zc)), 76, 608) := by kernel_rfl
theorem al_ent (hgd : o.guard = none) (ho : o.op = .alloc 90)
    (h : ∀ W', W' = w.alloc (.cells (EA zc) 90) → Blk W' w.heap.size (EA zc) 90 → Below w.heap.size w W' → wpList Try.prog ops Q rest (a.put o.dst (.pointer (some ⟨w.heap.size, 0, none⟩))) W') : wpList Try.prog ops Q (o :: rest) a w :=
  al_blk hgd ho _ (zero_ent w) h
end
end Go.Proofs.Ytfnageillhpjpaa
namespace Go.Proofs.Ytfnageillhpjpaa
set_option maxRecDepth 100000
open Go.RowKit Go.Shelf
set_option linter.unusedVariables false

/-- A call that answers whether something holds. -/
def BIff (r : Ending) (P : Prop) : Prop := ∃ z : Bool, r = .returned (.bool z) ∧ (z = true ↔ P)
/-- What the notes of a Kind have. -/
def shp (k : Int) : Option (Int × Int × Int × Int × Int) :=
  if k = 1 ∨ k = 4 then some (4, 1, 0, 0, 0) else if k = 2 then some (7, 1, 32, 0, 0) else if k = 3 then some (4, 1, 32, 0, 0) else if k = 5 then some (7, 1, 0, 0, 0) else if k = 6 then some (1, 2, 12, 0, 0)
  else if k = 7 then some (2, 2, 12, 16, 0) else if k = 8 then some (6, 1, 0, 0, 16) else if k = 9 then some (4, 1, 0, 0, 0) else none
abbrev shV (a b c d e : Int) : Value := .agg #[.int .i64 a, .int .i64 b, .int .i64 c, .int .i64 d, .int .i64 e]

def FitS (a b c d e : Int) (n o p : Nat) : Prop := a ≤ (n : Int) ∧ ((n : Int) - a) % b = 0 ∧ ((n : Int) - a) / b ≤ c ∧ (o : Int) ≤ d ∧ (p : Int) ≤ e
theorem shp_fits (k : Int) (n o p : Nat) : FitK k n o p ↔ ∃ a b c d e, shp k = some (a, b, c, d, e) ∧ FitS a b c d e n o p := by
  constructor
  · intro h
    have hk := (fitK_le h)
    have : k = 1 ∨ k = 2 ∨ k = 3 ∨ k = 4 ∨ k = 5 ∨ k = 6 ∨ k = 7 ∨ k = 8 ∨ k = 9 := by omega
    rcases this with rfl | rfl | rfl | rfl | rfl | rfl | rfl | rfl | rfl <;> (refine ⟨_, _, _, _, _, rfl, ?_⟩; unfold FitK at h; unfold FitS; omega)
  · rintro ⟨a, b, c, d, e, h1, h2⟩
    by_cases hk : k = 1 ∨ k = 2 ∨ k = 3 ∨ k = 4 ∨ k = 5 ∨ k = 6 ∨ k = 7 ∨ k = 8 ∨ k = 9
    · rcases hk with rfl | rfl | rfl | rfl | rfl | rfl | rfl | rfl | rfl <;>
        (simp [shp] at h1
         obtain ⟨rfl, rfl, rfl, rfl, rfl⟩ := h1
         unfold FitS at h2
         unfold FitK
         omega)
    · unfold shp at h1
      rw [if_neg (by omega), if_neg (by omega), if_neg (by omega), if_neg (by omega), if_neg (by omega), if_neg (by omega), if_neg (by omega), if_neg (by omega)] at h1
      cases h1
theorem shp_two {k a b c d e : Int} (h : shp k = some (a, b, c, d, e)) : (b = 1 ∨ b = 2) ∧ 0 ≤ a ∧ a ≤ 7 ∧ 0 ≤ c ∧ c ≤ 32 := by
  have hk : k = 1 ∨ k = 2 ∨ k = 3 ∨ k = 4 ∨ k = 5 ∨ k = 6 ∨ k = 7 ∨ k = 8 ∨ k = 9 := by
    refine Classical.byContradiction fun hn => ?_
    unfold shp at h
    rw [if_neg (by omega), if_neg (by omega), if_neg (by omega), if_neg (by omega), if_neg (by omega), if_neg (by omega), if_neg (by omega), if_neg (by omega)] at h
    cases h
  rcases hk with rfl | rfl | rfl | rfl | rfl | rfl | rfl | rfl | rfl <;> (simp [shp] at h; omega)

end Go.Proofs.Ytfnageillhpjpaa
namespace Go.Proofs.Ytfnageillhpjpaa
set_option maxRecDepth 100000
open Go.RowKit Go.Shelf
set_option linter.unusedVariables false

theorem cells_op {W : World} {g off : Nat} {o : Nat → Int} (h : W.rangeAt g off (OA o).toList) : W.cell? ⟨g, off, none⟩ = some (.int .i64 (o 0)) ∧ W.cell? ⟨g, off + 1, none⟩ = some (.int .i64 (o 1)) ∧ W.cell? ⟨g, off + 2, none⟩ = some (.int .i64 (o 2)) ∧ W.cell? ⟨g, off + 3, none⟩ = some (.int .i64 (o 3)) ∧ W.cell? ⟨g, off + 4, none⟩ = some (.int .i64 (o 4)) :=
  ⟨h 0 _ rfl, h 1 _ rfl, h 2 _ rfl, h 3 _ rfl, h 4 _ rfl⟩
/-- A note's value. -/
abbrev ntV (N : Nt) (vn vo ve : Value) : Value := .agg #[.int .i64 N.k, .int .i64 N.f, .int .i64 N.t, vn, vo, ve]

/-- What Check answers. -/
def CkP (N : Nt) (e : Ending) : Prop := (GoodN N → e = .returned .nilIface) ∧ (¬ GoodN N → e = .returned (Err 2))
theorem notSome {k : Int} (h : ∀ a b c d e, shp k ≠ some (a, b, c, d, e)) : shp k = none := by
  cases e : shp k with
  | none => rfl
  | some x => obtain ⟨a, b, c, d, f⟩ := x; exact absurd e (h a b c d f)

end Go.Proofs.Ytfnageillhpjpaa
namespace Go.Proofs.Ytfnageillhpjpaa
set_option maxRecDepth 100000
open Go.RowKit Go.Shelf
set_option linter.unusedVariables false

theorem isl4n (a b c d : Int) (w : World) : (Instr.buildSlice 23 4 #[(0, .int .i64 a), (1, .int .i64 b), (2, .int .i64 c), (3, .int .i64 d)]).run Try.prog w = .ok (.slice (some ⟨w.heap.size, 0, none⟩) 4 4) (w.alloc (.cells (ints [a, b, c, d]).toArray 3)) := by kernel_rfl
theorem isl5n (a b c d e : Int) (w : World) : (Instr.buildSlice 23 5 #[(0, .int .i64 a), (1, .int .i64 b), (2, .int .i64 c), (3, .int .i64 d), (4, .int .i64 e)]).run Try.prog w = .ok (.slice (some ⟨w.heap.size, 0, none⟩) 5 5) (w.alloc (.cells (ints [a, b, c, d, e]).toArray 3)) := by kernel_rfl
theorem ent_cell {W : World} {b q : Nat} {e : Nat → Int} (h : W.rangeAt b q (EA e).toList) : W.rangeAt b (q + 2) (CA (cE e)).toList := by
  intro i v hv
  have hi : i < 74 := by have := (List.getElem?_eq_some_iff.1 hv).1; simpa [CA] using this
  have e1 : (CA (cE e)).toList[i]? = some (.int (ck i) (cE e i)) := by simp [CA, hi]
  rw [e1] at hv
  cases hv
  have := h (2 + i) _ (AG_at 76 ek e (2 + i) (by omega))
  have e2 : ek (2 + i) = ck i := by
    unfold ek ck
    by_cases h2 : i = 2
    · subst h2; rfl
    · rw [if_neg (by omega), if_neg h2]
  rw [e2] at this
  rw [Nat.add_assoc]
  exact this
theorem blk_range {W : World} {b : Nat} {vs : Array Value} {t : TypeId} (h : Blk W b vs t) : W.rangeAt b 0 vs.toList := by
  intro i v hv
  rw [Nat.zero_add]
  exact h.at (by simpa using hv)
theorem EA_two {W : World} {b q : Nat} {e : Nat → Int} (h : W.rangeAt b q (EA e).toList) : W.cell? ⟨b, q, none⟩ = some (.int .i64 (e 0)) ∧ W.cell? ⟨b, q + 1, none⟩ = some (.int .i64 (e 1)) :=
  ⟨h 0 _ (AG_at 76 ek e 0 (by omega)), h 1 _ (AG_at 76 ek e 1 (by omega))⟩
/-- A block beside an own row. -/
theorem own_other {W : World} {base b n : Nat} {v : Value} {l : List Int} {e : TypeId} {vs : Array Value} {t : TypeId} (h : W.ownsRow base e 1 v n (ints l)) (hB : Blk W b vs t) (hn : t ≠ e) : v.ownBlock ≠ some b := by
  intro hv
  rcases h.2 with ⟨h2, _⟩ | ⟨g, cap, cur, h2, hb, hg, _⟩
  · rw [h2] at hv; cases hv
  · rw [h2] at hv
    have hv' : g = b := by simpa [Value.ownBlock] using hv
    subst hv'
    unfold Blk at hB
    rw [hg] at hB
    injection hB with hB
    injection hB with _ h2 _
    exact hn h2.symm
theorem blk_grown {W W' : World} {b : Nat} {vs : Array Value} {t : TypeId} {r : Option Nat} (hB : Blk W b vs t) (hg : W.grownBy W' r) (hn : r ≠ some b) : Blk W' b vs t :=
  (hg.block b hB.lt (fun h => hn h.symm)).trans hB
section
variable {ops : Array Oper} {rest : List Oper} {o : Oper} {a : Act} {w : World} {Q : Exit → Act → World → Prop}
theorem st_ent (hgd : o.guard = none) {x y : Operand} (ho : o.op = .store 90 x y) {b : Nat} {c d : Nat → Int} {t : TypeId} (hB : Blk w b (EA d) t) (hx : a.eval x = .pointer (some ⟨b, 0, none⟩)) (hy : a.eval y = .agg (EA c))
    (h : ∀ W', Blk W' b (EA c) t → Chg b w W' → wpList Try.prog ops Q rest (a.put o.dst undef) W') : wpList Try.prog ops Q (o :: rest) a w :=
  st_blk hgd ho hB hx hy (info_ent c) (by rw [AG_size, AG_size]) (by rw [Array.all_eq_true']; intro x hx; exact AG_one 76 ek c x (by simpa using hx)) h
theorem ld_cellA (hgd : o.guard = none) {x : Operand} (ho : o.op = .load 54 x) {b q : Nat} {c : Nat → Int} (hr : w.rangeAt b q (CA c).toList) (hx : a.eval x = .pointer (some ⟨b, q, none⟩))
    (h : wpList Try.prog ops Q rest (a.put o.dst (.agg (CA c))) w) : wpList Try.prog ops Q (o :: rest) a w := ld_cell_mid hgd ho hr hx h
end

end Go.Proofs.Ytfnageillhpjpaa
namespace Go.Proofs.Ytfnageillhpjpaa
set_option maxRecDepth 100000
open Go.RowKit Go.Shelf
set_option linter.unusedVariables false

end Go.Proofs.Ytfnageillhpjpaa
namespace Go.Proofs.Ytfnageillhpjpaa
set_option maxRecDepth 100000
open Go.RowKit Go.Shelf
set_option linter.unusedVariables false

theorem info_place (a b : Int) : (Try.prog.info? 38).map (·.size) = some (#[Value.int .i64 a, .int .i64 b]).size := by kernel_rfl
def CtP (W : World) (c : Int) (s : Nat) (r : List Int) (e : Ending) : Prop :=
  ((c < 0 ∨ ((r.length / s : Nat) : Int) < c) → e = .returned (.tuple #[.slice none 0 0, .slice none 0 0, .bool false])) ∧
  (∀ m : Nat, c = (m : Int) → m ≤ r.length / s → ∃ v1 v2, e = .returned (.tuple #[v1, v2, .bool true]) ∧ Is W v1 (r.take (m * s)) ∧ Is W v2 (r.drop (m * s)))

end Go.Proofs.Ytfnageillhpjpaa
namespace Go.Proofs.Ytfnageillhpjpaa
set_option maxRecDepth 100000
open Go.RowKit Go.Shelf
set_option linter.unusedVariables false

/-- Cells written one behind the other. -/
def setL : List Value → Nat → List Value → List Value
  | xs, _, [] => xs
  | xs, o, c :: cs => setL (xs.set o c) (o + 1) cs
theorem setL_mid : ∀ (C A P B : List Value), A.length = C.length → setL (P ++ A ++ B) P.length C = P ++ C ++ B
  | [], A, P, B, h => by
    have : A = [] := List.eq_nil_of_length_eq_zero (by simpa using h)
    subst this
    rfl
  | c :: C, [], P, B, h => by simp at h
  | c :: C, a :: A, P, B, h => by
    unfold setL
    have e : (P ++ a :: A ++ B).set P.length c = (P ++ [c]) ++ A ++ B := by simp
    have := setL_mid C A (P ++ [c]) B (by simpa using h)
    rw [List.length_append, List.length_singleton] at this
    rw [e, this]
    simp
theorem flatA_setL (k : Nat) (ks : Nat → IntKind) (L : List (Nat → Int)) (m : Nat) (c : Nat → Int) (hm : m < L.length) : setL (flatA k ks L) (m * k) (AG k ks c).toList = flatA k ks (L.set m c) := by
  have e1 : L = L.take m ++ [L[m]] ++ L.drop (m + 1) := by simp
  have e2 : L.set m c = L.take m ++ [c] ++ L.drop (m + 1) := by
    rw [List.set_eq_take_append_cons_drop, if_pos hm]; simp
  have one : ∀ x, flatA k ks [x] = (AG k ks x).toList := fun x => by simp [flatA]
  rw [e2, ← flatA_append, ← flatA_append, one]
  conv => lhs; rw [e1, ← flatA_append, ← flatA_append, one]
  have hl : (flatA k ks (L.take m)).length = m * k := by rw [flatA_len, List.length_take, Nat.min_eq_left (by omega)]
  rw [← hl]
  exact setL_mid _ _ _ _ (by rw [AG_len, AG_len])
theorem own_setL {e size base n g cap : Nat} : ∀ (cs : List Value) (o : Nat) (W : World) (xs : List Value), W.ownsRow base e size (.slice (some ⟨g, 0, none⟩) n cap) n xs →
    (W.setCells g o cs).ownsRow base e size (.slice (some ⟨g, 0, none⟩) n cap) n (setL xs o cs) ∧ Chg g W (W.setCells g o cs)
  | [], o, W, xs, h => ⟨h, Chg.refl _ _⟩
  | c :: cs, o, W, xs, h => by
    have h1 := (h.stored o c).1
    obtain ⟨h2, h3⟩ := own_setL cs (o + 1) _ _ h1
    exact ⟨h2, (chg_set _ _ _ _).trans h3⟩
theorem so_stored {e : TypeId} {k : Nat} {ks : Nat → IntKind} {W : World} {base n g cap m : Nat} {L : List (Nat → Int)} (hk : 0 < k) (h : W.ownsRow base e k (.slice (some ⟨g, 0, none⟩) n cap) n (flatA k ks L)) (hm : m < n) (c : Nat → Int) :
    (W.setCells g (m * k) (AG k ks c).toList).ownsRow base e k (.slice (some ⟨g, 0, none⟩) n cap) n (flatA k ks (L.set m c)) ∧ Chg g W (W.setCells g (m * k) (AG k ks c).toList) ∧ W.there g (m * k) (AG k ks c).size := by
  have hlen : L.length = n := by have := h.1; rw [flatA_len] at this; exact Nat.eq_of_mul_eq_mul_right hk this
  obtain ⟨h1, h2⟩ := own_setL (AG k ks c).toList (m * k) W _ h
  rw [flatA_setL k ks L m c (by omega)] at h1
  refine ⟨h1, h2, fun j hj => ⟨?_, h.frozenAt _⟩⟩
  obtain ⟨_, _, e, _, _, _, _, hc⟩ := own_cells h (by simp)
  cases e
  rw [AG_size] at hj
  rw [hc _ _ (flatA_at k ks L m _ (List.getElem?_eq_getElem (by omega)) j _ (AG_at k ks _ j hj))]
  rfl
theorem made_A (k : Nat) (ks : Nat → IntKind) (hk : 0 < k) (n : Nat) : (madeCells (Value.agg (AG k ks zc)).cells (n * k)).toList = flatA k ks (List.replicate n zc) := by
  apply List.ext_getElem?
  intro j
  by_cases hj : j < n * k
  · have hm : j % k < k := Nat.mod_lt _ hk
    have hd : j / k < n := Nat.div_lt_of_lt_mul (by rwa [Nat.mul_comm])
    have := flatA_at k ks (List.replicate n zc) (j / k) zc (by simp [hd]) (j % k) _ (AG_at k ks zc _ hm)
    rw [Nat.mul_comm, Nat.div_add_mod] at this
    rw [this]
    simp [madeCells, Value.cells, hj, AG, hm]
  · rw [List.getElem?_eq_none (by simp [madeCells]; omega), List.getElem?_eq_none (by rw [flatA_len, List.length_replicate]; omega)]
section
variable {ops : Array Oper} {rest : List Oper} {o : Oper} {a : Act} {w : World} {Q : Exit → Act → World → Prop}
/-- 'make' of so many structs. -/
theorem mk_so (hw : Region.wanted o (yielded ops a.tmps) = true) {t e : TypeId} {k bytes : Nat} {ks : Nat → IntKind} (hk : 0 < k) (ht : Try.prog.underlying t = some (.slice e)) (hinf : (Try.prog.info? e).map (fun i => (i.zero, i.size, i.bytes)) = some (some (.agg (AG k ks zc)), k, bytes))
    {x y : Operand} (ho : o.op = .makeSlice t x y) {c : Nat} (hx : a.eval x = .int .i64 (c : Int)) (hy : a.eval y = .int .i64 (c : Int)) (hb : bytes * c ≤ 281474976710656) (hc : c ≤ 1000000000)
    (h : ∀ W', W'.ownsRow w.heap.size e k (.slice (some ⟨w.heap.size, 0, none⟩) c c) c (flatA k ks (List.replicate c zc)) → Below w.heap.size w W' → wpList Try.prog ops Q rest (a.put o.dst (.slice (some ⟨w.heap.size, 0, none⟩) c c)) W') : wpList Try.prog ops Q (o :: rest) a w := by
  obtain ⟨i, hi, hz0, hz1, hz2⟩ := info_parts hinf
  obtain ⟨w', hr, ho', hg⟩ := run_make_full (P := Try.prog) w w.heap.size t e i _ k ht hi hz0 hz1 .i64 .i64 c (by rw [hz2]; exact hb) (by unfold maxLen; omega) (Nat.le_refl _)
  rw [made_A k ks hk] at ho'
  unfold wpList
  rw [if_pos hw]
  left
  unfold Oper.wp execOp
  simp only [ho, Sem.run_bind, hx, hy, hr, Result.andThen_ok]
  exact h _ ho' (below_grown (Below.refl _ _) hg)
/-- A struct into the middle of an own row: at one operation. -/
theorem soW {K : Act → World → Prop} (d : Option Tmp) (hd : o.dst = d) {e : TypeId} {k : Nat} {ks : Nat → IntKind} (hk : 0 < k) (hi : (Try.prog.info? e).map (·.size) = some k) {x y : Operand} (ho : o.op = .store e x y) {base n g cap m : Nat} {L : List (Nat → Int)}
    (h : w.ownsRow base e k (.slice (some ⟨g, 0, none⟩) n cap) n (flatA k ks L)) (hm : m < n) (c : Nat → Int) (hx : a.eval x = .pointer (some ⟨g, m * k, none⟩)) (hy : a.eval y = .agg (AG k ks c))
    (hK : ∀ W', W'.ownsRow base e k (.slice (some ⟨g, 0, none⟩) n cap) n (flatA k ks (L.set m c)) → Chg g w W' → K (a.put d undef) W') : o.wp Try.prog a w K Q := by
  subst hd
  obtain ⟨h1, h2, h3⟩ := so_stored hk h hm c
  exact wp_store_mid e x y ho g (m * k) (AG k ks c) hx hy h3 (by rw [AG_size]; exact hi) (by rw [Array.all_eq_true']; intro x hx; exact AG_one k ks c x (by simpa using hx)) (hK _ h1 h2)
end

theorem info_opz : (Try.prog.info? 27).map (·.size) = some 5 := by kernel_rfl
/-- Operations of numbers. -/
def opAt (l : List Int) (j : Nat) : Nat → Int := fun i => l.getD (5 * j + i) 0
def opsL (l : List Int) (m : Nat) : List (Nat → Int) := (List.range m).map (opAt l)
theorem opsL_len (l : List Int) (m : Nat) : (opsL l m).length = m := by simp [opsL]
/-- As far as they are written. -/
def opsU (l : List Int) (m j : Nat) : List (Nat → Int) := opsL l j ++ List.replicate (m - j) zc
theorem opsU_next (l : List Int) (m j : Nat) (h : j < m) : (opsU l m j).set j (opAt l j) = opsU l m (j + 1) := by
  obtain ⟨d, rfl⟩ : ∃ d, m = j + d + 1 := ⟨m - j - 1, by omega⟩
  unfold opsU
  rw [List.set_append_right _ _ (by simp [opsL]), opsL_len, Nat.sub_self, show j + d + 1 - j = d + 1 by omega, show j + d + 1 - (j + 1) = d by omega, List.replicate_succ, List.set_cons_zero]
  unfold opsL
  rw [List.range_succ, List.map_append, List.append_assoc]
  rfl
theorem opsU_end (l : List Int) (m : Nat) : opsU l m m = opsL l m := by simp [opsU]

end Go.Proofs.Ytfnageillhpjpaa
namespace Go.Proofs.Ytfnageillhpjpaa
set_option maxRecDepth 100000
open Go.RowKit Go.Shelf
set_option linter.unusedVariables false

def mkE (a b : Int) (c : Nat → Int) : Nat → Int := fun i => if i = 0 then a else if i = 1 then b else c (i - 2)
theorem built_ent (a b : Int) (c : Nat → Int) : Try.prog.built 90 [(0, .agg #[.int .i64 a, .int .i64 b]), (1, .agg (CA c))] = some (EA (mkE a b c)) := by kernel_rfl
theorem zc_ent : Try.zeroCells90 = EA zc := by kernel_rfl
theorem built_ent0 : Try.prog.built 90 [] = some (EA zc) := by kernel_rfl
theorem cE_mkE (a b : Int) (c : Nat → Int) : cE (mkE a b c) = c := by
  funext i
  unfold cE mkE
  rw [if_neg (by omega), if_neg (by omega), Nat.add_sub_cancel_left]
theorem enN_mkE (a b : Int) (c : Nat → Int) : enN (mkE a b c) = a :: b :: numsF c := by unfold enN; rw [cE_mkE]; rfl
theorem EA_all (c : Nat → Int) : (EA c).all (·.oneCell') = true := by rw [Array.all_eq_true']; intro x hx; exact AG_one 76 ek c x (by simpa using hx)

/-- Numbers that begin with no entry. -/
def NoE (l : List Int) : Prop := l.length < 2 ∨ NoT (l.drop 2)
theorem noT_nums {l : List Int} (h : NoT l) {c : Nat → Int} (hc : Wf c) (more : List Int) : l ≠ numsF c ++ more := by
  intro e
  obtain ⟨hp, nx, g, hf, -⟩ := take_nums c hc more
  rw [← e] at hp
  rcases h with h | ⟨h1, h2⟩ | ⟨ps, more', h1, h2⟩
  · have := hp.len; omega
  · have h3 := congrArg List.length hp.rest
    rw [List.length_drop, List.length_append, flatP_len] at h3
    have h4 := hp.nine
    omega
  · have h3 : ps.length = (pp (Go.Proofs.Ytfnageillhpjpaa.hf c) 65).length := by have := h1.nine.symm.trans hp.nine; omega
    have h4 := h1.rest.symm.trans hp.rest
    have h5 := (List.append_inj h4 (by rw [flatP_len, flatP_len, h3])).1
    rw [flatP_inj _ _ h5, hf] at h2
    cases h2
theorem noE_nums {l : List Int} (h : NoE l) {e : Nat → Int} (he : WE e) (more : List Int) : l ≠ enN e ++ more := by
  intro eq
  rcases h with h | h
  · rw [eq] at h; simp [enN] at h; omega
  · refine noT_nums h he.2.2 more ?_
    rw [eq]
    simp [enN]
/-- Or with one. -/
theorem entry_cases (l : List Int) : NoE l ∨ ∃ a b r ps more nx h, l = a :: b :: r ∧ Parts r ps more ∧ foldH ps = some (nx, h) := by
  match l with
  | [] => exact .inl (.inl (by simp))
  | [_] => exact .inl (.inl (by simp))
  | a :: b :: r =>
    rcases take_cases r with h | ⟨ps, more, nx, h, h1, h2⟩
    · exact .inl (.inr h)
    · exact .inr ⟨a, b, r, ps, more, nx, h, rfl, h1, h2⟩

end Go.Proofs.Ytfnageillhpjpaa
namespace Go.Proofs.Ytfnageillhpjpaa
set_option maxRecDepth 100000
open Go.RowKit Go.Shelf
set_option linter.unusedVariables false

section
variable {ops : Array Oper} {rest : List Oper} {o : Oper} {a : Act} {w : World} {Q : Exit → Act → World → Prop}
/-- append of structs onto an own slice of them. -/
theorem app_s (A : World) (hw : Region.wanted o (yielded ops a.tmps) = true) {s x : Operand} {t e : TypeId} {k bytes : Nat} {ks : Nat → IntKind} (ho : o.op = .call { callee := .builtin .append, args := #[s, x], argTypes := #[t, t] })
    (hk : 0 < k) (ht : Try.prog.underlying t = some (.slice e)) (hinf : (Try.prog.info? e).map (fun i => (i.zero, i.size, i.bytes)) = some (some (.agg (AG k ks zc)), k, bytes))
    {v vx : Value} {l m : List (Nat → Int)} (hs : a.eval s = v) (hown : SO e k ks w A.heap.size v l) (hx : a.eval x = vx) (hsl : SR k ks w vx m) (h63 : l.length + m.length ≤ 1000000000) (hbytes : (l.length + m.length) * bytes ≤ 140737488355328) (hA : Below A.heap.size A w)
    (h : ∀ v' w', SO e k ks w' A.heap.size v' (l ++ m) → Below A.heap.size A w' → w.grownBy w' v.ownBlock → wpList Try.prog ops Q rest (a.put o.dst v') w') : wpList Try.prog ops Q (o :: rest) a w := by
  obtain ⟨q, cap, rfl, hq, hsrc⟩ := hsl.src hk
  refine app_ownG A hw ho ht hinf (by show (AG k ks zc).size = k; exact AG_size _ _ _) hk hs hown (flatA k ks m) hx hq (flatA_len k ks m) hsrc (flatA_one k ks m) (by unfold maxLen; omega) hbytes hA fun v' w' h1 h2 h3 h4 => ?_
  rw [flatA_append] at h1
  exact h v' w' (so_of h1 hk) h3 h4
theorem bse1 (e : Nat → Int) (w : World) : (Instr.buildSlice 62 1 #[(0, .agg (EA e))]).run Try.prog w = .ok (.slice (some ⟨w.heap.size, 0, none⟩) 1 1) (w.alloc (.cells (EA e) 90)) := by kernel_rfl
theorem so_new1 (w : World) (e : Nat → Int) : SO 90 76 ek (w.alloc (.cells (EA e) 90)) w.heap.size (.slice (some ⟨w.heap.size, 0, none⟩) 1 1) [e] := by
  have hf : flatA 76 ek [e] = (EA e).toList := by simp [flatA]
  refine ⟨flatA_len 76 ek [e], .inr ⟨w.heap.size, 1, EA e, rfl, Nat.le_refl _, by show (w.heap.push _)[w.heap.size]? = _; simp, by simp, by unfold maxLen; omega, ?_, ?_⟩⟩
  · simp [AG_size]
  · rw [hf]; exact List.take_of_length_le (by rw [AG_len]; simp)
theorem bs_e1 (hw : Region.wanted o (yielded ops a.tmps) = true) {parts : Array (Nat × Operand)} (ho : o.op = .buildSlice 62 1 parts) (e : Nat → Int) (hl : parts.map (fun (i, x) => (i, a.eval x)) = #[(0, .agg (EA e))])
    (h : ∀ W', SO 90 76 ek W' w.heap.size (.slice (some ⟨w.heap.size, 0, none⟩) 1 1) [e] → Below w.heap.size w W' → wpList Try.prog ops Q rest (a.put o.dst (.slice (some ⟨w.heap.size, 0, none⟩) 1 1)) W') : wpList Try.prog ops Q (o :: rest) a w := by
  unfold wpList
  rw [if_pos hw]
  left
  unfold Oper.wp execOp
  simp only [ho, Sem.run_bind, hl, bse1, Result.andThen_ok]
  exact h _ (so_new1 w e) ((Below.refl _ _).alloc (Nat.le_refl _) _)
end
theorem SO.form {e : TypeId} {k : Nat} {ks : Nat → IntKind} {W : World} {base : Nat} {v : Value} {l : List (Nat → Int)} (h : SO e k ks W base v l) (hk : 0 < k) : ∃ q cap, v = .slice q l.length cap := by
  obtain ⟨q, cap, g, off, h1, _⟩ := h.sr hk
  exact ⟨q, cap, h1⟩
theorem SO.less {e : TypeId} {k : Nat} {ks : Nat → IntKind} {W : World} {base base' : Nat} {v : Value} {l : List (Nat → Int)} (h : SO e k ks W base v l) (hb : base' ≤ base) : SO e k ks W base' v l := own_less h hb
theorem so_nil (e : TypeId) (k : Nat) (ks : Nat → IntKind) (W : World) (base : Nat) : SO e k ks W base (.slice none 0 0) [] := World.ownsRow_nil W _ _ _

/-- What entriesOf answers. -/
def EnP (W : World) (base : Nat) (l : List Int) (e : Ending) : Prop :=
  (∃ es v, l = tailN es ∧ es.length ≤ 16 ∧ (∀ x ∈ es, WE x) ∧ e = .returned (.tuple #[v, .bool true]) ∧ SO 90 76 ek W base v es) ∨
  ((∀ es, es.length ≤ 16 → (∀ x ∈ es, WE x) → l ≠ tailN es) ∧ ∃ q n c, e = .returned (.tuple #[.slice q n c, .bool false]))
theorem ents_split : ∀ (done es : List (Nat → Int)) (rest : List Int), done.length ≤ es.length → done.flatMap enN ++ rest = es.flatMap enN → rest = (es.drop done.length).flatMap enN
  | [], es, rest, _, h => by simpa using h
  | d :: done, [], rest, h, _ => by simp at h
  | d :: done, e :: es, rest, h, he => by
    rw [List.flatMap_cons, List.flatMap_cons, List.append_assoc] at he
    obtain ⟨_, h2⟩ := enN_pre he
    simpa using ents_split done es rest (by simpa using h) h2
theorem ent_wf {a b : Int} {r : List Int} {ps : List PV} {more : List Int} {nx : Nat} {h : Nat → Int} (hf : In64 (a :: b :: r)) (hp : Parts r ps more) (e : foldH ps = some (nx, h)) : WE (mkE a b (cellOf r h)) := by
  refine ⟨hf a (by simp), hf b (by simp), ?_⟩
  rw [cE_mkE]
  exact cellOf_wf hp e fun x hx => hf x (by simp [hx])
theorem ent_back {a b : Int} {r : List Int} {ps : List PV} {more : List Int} {nx : Nat} {h : Nat → Int} (hf : In64 (a :: b :: r)) (hp : Parts r ps more) (e : foldH ps = some (nx, h)) : enN (mkE a b (cellOf r h)) ++ more = a :: b :: r := by
  have h2 : Fit (r.getD 2 0) := by
    have hl := hp.len
    rw [List.getD_eq_getElem?_getD, List.getElem?_eq_getElem (by omega)]
    exact hf _ (by simp)
  rw [enN_mkE, List.cons_append, List.cons_append, take_back hp e h2.1 h2.2]

end Go.Proofs.Ytfnageillhpjpaa
namespace Go.Proofs.Ytfnageillhpjpaa
set_option maxRecDepth 100000
open Go.RowKit Go.Shelf
set_option linter.unusedVariables false

/-- Numbers of no note of at most 16 entries. -/
def NoN (l : List Int) : Prop := ∀ N : Nt, WN N → N.es.length ≤ 16 → numsN N ≠ l
theorem noN_of {N : Nt} {k f t : Int} {r : List Int} (h : numsN N = k :: f :: t :: r) : r = (N.ns.length : Int) :: (N.ns ++ midN N.os N.es) := by
  unfold numsN at h
  simp only [List.cons.injEq] at h
  exact h.2.2.2.symm
theorem noN_short {l : List Int} (h : l.length < 3) : NoN l := fun N _ _ e => by
  have := numsN_len N
  rw [e] at this
  omega
theorem noN_a (k f t : Int) : NoN [k, f, t] := fun N _ _ e => by have := noN_of e; simp at this
theorem noN_b {k f t c : Int} {r : List Int} (h : c < 0 ∨ ((r.length / 1 : Nat) : Int) < c) : NoN (k :: f :: t :: c :: r) := fun N _ _ e => by
  have := noN_of e
  simp only [List.cons.injEq] at this
  have h2 := congrArg List.length this.2
  rw [List.length_append] at h2
  rw [Nat.div_one] at h
  omega
theorem noN_m {N : Nt} {k f t : Int} {m : Nat} {r : List Int} (h : numsN N = k :: f :: t :: (m : Int) :: r) : r.drop m = midN N.os N.es := by
  have := noN_of h
  simp only [List.cons.injEq] at this
  have hm : m = N.ns.length := by omega
  rw [this.2, hm]
  exact List.drop_left
theorem noN_c {k f t : Int} {m : Nat} {r : List Int} (h : r.drop m = []) : NoN (k :: f :: t :: (m : Int) :: r) := fun N _ _ e => by
  have := noN_m e
  rw [h] at this
  simp [midN] at this
theorem noN_d {k f t c : Int} {m : Nat} {r r5 : List Int} (h : r.drop m = c :: r5) (hc : c < 0 ∨ ((r5.length / 5 : Nat) : Int) < c) : NoN (k :: f :: t :: (m : Int) :: r) := fun N _ _ e => by
  have := noN_m e
  rw [h] at this
  unfold midN at this
  simp only [List.cons.injEq] at this
  have h2 := congrArg List.length this.2
  rw [List.length_append, ops_bytes] at h2
  omega
theorem noN_e {k f t : Int} {m m2 : Nat} {r r5 : List Int} (h : r.drop m = (m2 : Int) :: r5) (he : ∀ es, es.length ≤ 16 → (∀ x ∈ es, WE x) → r5.drop (m2 * 5) ≠ tailN es) : NoN (k :: f :: t :: (m : Int) :: r) := fun N hN h16 e => by
  have := noN_m e
  rw [h] at this
  unfold midN at this
  simp only [List.cons.injEq] at this
  have hm : m2 = N.os.length := by omega
  refine he N.es h16 hN.es ?_
  rw [this.2, hm]
  exact List.drop_left' (by rw [ops_bytes]; omega)
theorem opsL_take (l : List Int) : ∀ m, 5 * m ≤ l.length → (opsL l m).flatMap opNt = l.take (5 * m)
  | 0, _ => by simp [opsL]
  | m + 1, h => by
    have ih := opsL_take l m (by omega)
    have e1 : opsL l (m + 1) = opsL l m ++ [opAt l m] := by unfold opsL; rw [List.range_succ, List.map_append]; rfl
    have st : ∀ i, 5 * m + i < l.length → l.take (5 * m + i + 1) = l.take (5 * m + i) ++ [l.getD (5 * m + i) 0] := fun i hi => by
      rw [List.take_add_one, List.getD_eq_getElem?_getD, List.getElem?_eq_getElem hi]
      rfl
    have s0 := st 0 (by omega)
    have s1 := st 1 (by omega)
    have s2 := st 2 (by omega)
    have s3 := st 3 (by omega)
    have s4 := st 4 (by omega)
    rw [Nat.add_zero] at s0
    rw [e1, List.flatMap_append, ih, show 5 * (m + 1) = 5 * m + 4 + 1 by omega, s4, s3, s2, s1, s0]
    simp [opNt, opAt]
theorem opsL_flat (m : Nat) (l : List Int) (h : l.length = 5 * m) : (opsL l m).flatMap opNt = l := by
  rw [opsL_take l m (by omega), List.take_of_length_le (by omega)]
theorem yesN {k f t : Int} {m m2 : Nat} {r r5 : List Int} {es : List (Nat → Int)} (hm : m ≤ r.length) (h : r.drop m = (m2 : Int) :: r5) (h5 : m2 * 5 ≤ r5.length) (he : r5.drop (m2 * 5) = tailN es) : numsN ⟨k, f, t, r.take m, opsL (r5.take (m2 * 5)) m2, es⟩ = k :: f :: t :: (m : Int) :: r := by
  have e1 : (r.take m).length = m := by rw [List.length_take]; omega
  unfold numsN midN
  dsimp only
  rw [e1, opsL_len, opsL_flat m2 _ (by rw [List.length_take]; omega), ← he, List.take_append_drop, ← h, List.take_append_drop]
theorem yes_wf {k f t : Int} {m m2 : Nat} {r r5 : List Int} {es : List (Nat → Int)} (hf : In64 (k :: f :: t :: (m : Int) :: r)) (h : r.drop m = (m2 : Int) :: r5) (he : ∀ x ∈ es, WE x) : WN ⟨k, f, t, r.take m, opsL (r5.take (m2 * 5)) m2, es⟩ := by
  refine ⟨hf k (by simp), hf f (by simp), hf t (by simp), fun x hx => hf x (by have := List.mem_of_mem_take hx; simp [this]), fun o ho => ?_, he⟩
  obtain ⟨j, _, rfl⟩ := List.mem_map.1 ho
  intro i _
  unfold opAt
  by_cases c : 5 * j + i < (r5.take (m2 * 5)).length
  · rw [List.getD_eq_getElem?_getD, List.getElem?_eq_getElem c]
    have h1 := List.mem_of_mem_take (List.getElem_mem c)
    have h2 : (r5.take (m2 * 5))[5 * j + i] ∈ r := List.mem_of_mem_drop (i := m) (by rw [h]; exact List.mem_cons_of_mem _ h1)
    exact hf _ (List.mem_cons_of_mem _ (List.mem_cons_of_mem _ (List.mem_cons_of_mem _ (List.mem_cons_of_mem _ h2))))
  · rw [List.getD_eq_getElem?_getD, List.getElem?_eq_none (by omega)]
    exact ⟨by simp, by simp⟩

theorem io_nil (W : World) (base : Nat) : Io W base (.slice none 0 0) [] := World.ownsRow_nil W _ _ _
theorem so_chg {e : TypeId} {k : Nat} {ks : Nat → IntKind} {W W' : World} {base b : Nat} {v : Value} {l : List (Nat → Int)} (h : SO e k ks W base v l) (hc : Chg b W W') (hb : b < base) : SO e k ks W' base v l := by
  refine ⟨h.1, ?_⟩
  rcases h.2 with h2 | ⟨g, cap, cur, h1, h2, hg, h3⟩
  · exact .inl h2
  · exact .inr ⟨g, cap, cur, h1, h2, Blk.chg hg hc (by omega), h3⟩
/-- What read answers. -/
def RdP (W : World) (base : Nat) (l : List Int) (e : Ending) : Prop :=
  (∃ N vn vo ve, numsN N = l ∧ WN N ∧ N.es.length ≤ 16 ∧ e = .returned (.tuple #[ntV N vn vo ve, .bool true]) ∧ Io W base vn N.ns ∧ SO 27 5 k64 W base vo N.os ∧ SO 90 76 ek W base ve N.es) ∨
  (NoN l ∧ ∃ k f t q1 n1 c1 q2 n2 c2 q3 n3 c3, e = .returned (.tuple #[.agg #[.int .i64 k, .int .i64 f, .int .i64 t, .slice q1 n1 c1, .slice q2 n2 c2, .slice q3 n3 c3], .bool false]))
theorem rd_zero (W : World) (base : Nat) (l : List Int) (h : NoN l) : RdP W base l (.returned (.tuple #[.agg #[.int .i64 0, .int .i64 0, .int .i64 0, .slice none 0 0, .slice none 0 0, .slice none 0 0], .bool false])) := .inr ⟨h, _, _, _, _, _, _, _, _, _, _, _, _, rfl⟩
/-- A note's block, written over. -/
theorem blk_six {W : World} {b : Nat} {a0 a1 a2 a3 a4 a5 : Value} {t : TypeId} (h : Blk W b #[a0, a1, a2, a3, a4, a5] t) (b0 b1 b2 b3 b4 b5 : Value) :
    Blk ((((((W.setCell ⟨b, 0, none⟩ b0).setCell ⟨b, 1, none⟩ b1).setCell ⟨b, 2, none⟩ b2).setCell ⟨b, 3, none⟩ b3).setCell ⟨b, 4, none⟩ b4).setCell ⟨b, 5, none⟩ b5) b #[b0, b1, b2, b3, b4, b5] t ∧
    Chg b W ((((((W.setCell ⟨b, 0, none⟩ b0).setCell ⟨b, 1, none⟩ b1).setCell ⟨b, 2, none⟩ b2).setCell ⟨b, 3, none⟩ b3).setCell ⟨b, 4, none⟩ b4).setCell ⟨b, 5, none⟩ b5) :=
  ⟨(((((h.set 0 b0).set 1 b1).set 2 b2).set 3 b3).set 4 b4).set 5 b5, (((((chg_set _ _ _ _).trans (chg_set _ _ _ _)).trans (chg_set _ _ _ _)).trans (chg_set _ _ _ _)).trans (chg_set _ _ _ _)).trans (chg_set _ _ _ _)⟩
structure Six (W : World) (b : Nat) (a0 a1 a2 a3 a4 a5 : Value) : Prop where
  c0 : W.cell? ⟨b, 0, none⟩ = some a0
  c1 : W.cell? ⟨b, 1, none⟩ = some a1
  c2 : W.cell? ⟨b, 2, none⟩ = some a2
  c3 : W.cell? ⟨b, 3, none⟩ = some a3
  c4 : W.cell? ⟨b, 4, none⟩ = some a4
  c5 : W.cell? ⟨b, 5, none⟩ = some a5
  f0 : W.frozen? ⟨b, 0, none⟩ = false
  f1 : W.frozen? ⟨b, 1, none⟩ = false
  f2 : W.frozen? ⟨b, 2, none⟩ = false
  f3 : W.frozen? ⟨b, 3, none⟩ = false
  f4 : W.frozen? ⟨b, 4, none⟩ = false
  f5 : W.frozen? ⟨b, 5, none⟩ = false
theorem six {W : World} {b : Nat} {a0 a1 a2 a3 a4 a5 : Value} {t : TypeId} (h : Blk W b #[a0, a1, a2, a3, a4, a5] t) : Six W b a0 a1 a2 a3 a4 a5 :=
  ⟨h.at rfl, h.at rfl, h.at rfl, h.at rfl, h.at rfl, h.at rfl, h.frozen 0, h.frozen 1, h.frozen 2, h.frozen 3, h.frozen 4, h.frozen 5⟩
end Go.Proofs.Ytfnageillhpjpaa
namespace Go.Proofs.Ytfnageillhpjpaa
set_option maxRecDepth 100000
open Go.RowKit Go.Shelf
set_option linter.unusedVariables false

/-- Bytes that are just one frame. -/
def oneFr (b : List Nat) : Prop := insOK b = true ∧ 8 + (insB b).length = b.length
theorem oneFr_frm {b : List Nat} (hb : Byt b) (h : oneFr b) : frm (insB b) = b := by
  obtain ⟨h1, h2⟩ := h
  have h3 := (insOK_iff b).1 h1
  have h4 := (ins_of hb h3.1 h3.2.1 h3.2.2.1).2 h1
  rw [h4, ← insB_len h1, h2, List.take_length]
theorem oneFr_of {N : Nt} (g : GoodN N) : oneFr (bysN N) ∧ insB (bysN N) = numsB (numsN N) := by
  have := ins_frm (numsB (numsN N)) [] (good_fits g)
  rw [List.append_nil] at this
  unfold bysN oneFr
  exact ⟨⟨this.1, by rw [this.2, frm_len]⟩, this.2⟩
/-- No note in form has these bytes. -/
def NoB (b : List Nat) : Prop := ∀ N, WN N → GoodN N → bysN N ≠ b
theorem good_in {N : Nt} (hW : WN N) (g : GoodN N) : In64 (numsN N) := by
  have := fitK_le g.fit
  exact numsN_fit hW (by omega) (by omega) (by omega)
theorem noB_nus {b : List Nat} (h : nus (insB b) = none) : NoB b := fun N hW g e => by
  have := (oneFr_of g).2
  rw [e] at this
  rw [this, nus_put _ (good_in hW g)] at h
  cases h
theorem noB_l {b : List Nat} {l : List Int} (h : nus (insB b) = some l) {N : Nt} (hW : WN N) (g : GoodN N) (e : bysN N = b) : numsN N = l := by
  have := (oneFr_of g).2
  rw [e] at this
  rw [this, nus_put _ (good_in hW g)] at h
  exact Option.some.inj h
theorem noB_read {b : List Nat} {l : List Int} (h : nus (insB b) = some l) (hn : NoN l) : NoB b := fun N hW g e => hn N hW (by have := fitK_le g.fit; omega) (noB_l h hW g e)
theorem noB_form {b : List Nat} {l : List Int} (h : nus (insB b) = some l) {N : Nt} (hN : numsN N = l) (hW : WN N) (hg : ¬ GoodN N) : NoB b := fun M hM g e => hg (g.same (numsN_inj hM hW ((noB_l h hM g e).trans hN.symm)))
theorem yesB {b : List Nat} (hb : Byt b) (h1 : oneFr b) {l : List Int} (h : nus (insB b) = some l) {N : Nt} (hN : numsN N = l) : bysN N = b := by
  unfold bysN
  rw [hN, (nus_back _ (by unfold insB; exact (hb.drop 8).take _) l h).1, oneFr_frm hb h1]

abbrev zNt : Array Value := #[.int .i64 0, .int .i64 0, .int .i64 0, .slice none 0 0, .slice none 0 0, .slice none 0 0]
/-- What Decode answers. -/
def DcP (W : World) (base : Nat) (b : List Nat) (e : Ending) : Prop :=
  (¬ oneFr b ∧ e = .returned (.tuple #[.agg zNt, Err 3])) ∨ (oneFr b ∧ NoB b ∧ e = .returned (.tuple #[.agg zNt, Err 4])) ∨
  (oneFr b ∧ ∃ N vn vo ve, WN N ∧ GoodN N ∧ bysN N = b ∧ e = .returned (.tuple #[ntV N vn vo ve, .nilIface]) ∧ Io W base vn N.ns ∧ SO 27 5 k64 W base vo N.os ∧ SO 90 76 ek W base ve N.es)

end Go.Proofs.Ytfnageillhpjpaa
