/-
  Plain mathematics of notes: their numbers, their bytes, which are in form. Nothing here names the program.
  Structs of numbers, and slices of them, in memory.
  Which notes are in form: note.isNode, shapeOf, fits.
  note.Check: which notes are in form.
  note.numsOf: a note's numbers.
  note.Encode.
-/
import Derived.Test.YtoeilckeebojmaaPk25
import Derived.Test.YtoeilckeebojmaaPk38
import Derived.Test.YtoeilckeebojmaaPk37
import Derived.Test.YtoeilckeebojmaaPk11
import Derived.Deep.MidRow
import Derived.BigQuiet
namespace Go.Proofs.Ytoeilckeebojmaa
set_option maxRecDepth 100000
open Go.RowKit
set_option linter.unusedVariables false

/-- A note. -/
structure Nt where
  k : Int
  f : Int
  t : Int
  ns : List Int
  os : List (Nat → Int)
  es : List (Nat → Int)
def opNt (o : Nat → Int) : List Int := [o 0, o 1, o 2, o 3, o 4]
def cE (e : Nat → Int) : Nat → Int := fun i => e (2 + i)
def enN (e : Nat → Int) : List Int := e 0 :: e 1 :: numsF (cE e)
/-- A note's numbers. -/
def tailN (es : List (Nat → Int)) : List Int := (es.length : Int) :: es.flatMap enN
def midN (os : List (Nat → Int)) (es : List (Nat → Int)) : List Int := (os.length : Int) :: (os.flatMap opNt ++ tailN es)
def numsN (N : Nt) : List Int := N.k :: N.f :: N.t :: (N.ns.length : Int) :: (N.ns ++ midN N.os N.es)
/-- A note's bytes. -/
def bysN (N : Nt) : List Nat := frm (numsB (numsN N))

def WO (o : Nat → Int) : Prop := ∀ i, i < 5 → Fit (o i)
def WE (e : Nat → Int) : Prop := Fit (e 0) ∧ Fit (e 1) ∧ Wf (cE e)
structure WN (N : Nt) : Prop where
  k : Fit N.k
  f : Fit N.f
  t : Fit N.t
  ns : In64 N.ns
  os : ∀ o ∈ N.os, WO o
  es : ∀ e ∈ N.es, WE e

/-- The same elements. -/
def EqL (k : Nat) (l m : List (Nat → Int)) : Prop := l.length = m.length ∧ ∀ (j : Nat) (a b : Nat → Int), l[j]? = some a → m[j]? = some b → ∀ i, i < k → a i = b i
theorem EqL.refl (k : Nat) (l : List (Nat → Int)) : EqL k l l := ⟨rfl, fun j a b h1 h2 i _ => by rw [h1] at h2; cases h2; rfl⟩
theorem EqL.symm {k : Nat} {l m : List (Nat → Int)} (h : EqL k l m) : EqL k m l := ⟨h.1.symm, fun j a b h1 h2 i hi => (h.2 j b a h2 h1 i hi).symm⟩
theorem EqL.cons {k : Nat} {a b : Nat → Int} {l m : List (Nat → Int)} (h : ∀ i, i < k → a i = b i) (hl : EqL k l m) : EqL k (a :: l) (b :: m) := by
  refine ⟨by simp [hl.1], fun j x y hx hy i hi => ?_⟩
  cases j with
  | zero => simp at hx hy; subst hx; subst hy; exact h i hi
  | succ j => exact hl.2 j x y (by simpa using hx) (by simpa using hy) i hi
structure SameN (A B : Nt) : Prop where
  k : A.k = B.k
  f : A.f = B.f
  t : A.t = B.t
  ns : A.ns = B.ns
  os : EqL 5 A.os B.os
  es : EqL 76 A.es B.es
theorem SameN.refl (A : Nt) : SameN A A := ⟨rfl, rfl, rfl, rfl, .refl _ _, .refl _ _⟩
theorem SameN.symm {A B : Nt} (h : SameN A B) : SameN B A := ⟨h.k.symm, h.f.symm, h.t.symm, h.ns.symm, h.os.symm, h.es.symm⟩

theorem opN_congr {a b : Nat → Int} (h : ∀ i, i < 5 → a i = b i) : opNt a = opNt b := by
  unfold opNt; rw [h 0 (by omega), h 1 (by omega), h 2 (by omega), h 3 (by omega), h 4 (by omega)]
theorem numsF_congr {a b : Nat → Int} (h : Eqv a b) : numsF a = numsF b := by
  have hp : pp (hf a) 65 = pp (hf b) 65 := pp_congr 65 (fun i hi => h (9 + i) (by omega))
  unfold numsF hdF
  rw [hp, h 0 (by omega), h 1 (by omega), h 2 (by omega), h 3 (by omega), h 4 (by omega), h 5 (by omega), h 6 (by omega), h 7 (by omega), h 8 (by omega)]
theorem enN_congr {a b : Nat → Int} (h : ∀ i, i < 76 → a i = b i) : enN a = enN b := by
  unfold enN
  rw [h 0 (by omega), h 1 (by omega), numsF_congr (a := cE a) (b := cE b) (fun i hi => h (2 + i) (by omega))]
theorem flatMap_eql {k : Nat} {F : (Nat → Int) → List Int} (hF : ∀ a b : Nat → Int, (∀ i, i < k → a i = b i) → F a = F b) : ∀ {l m : List (Nat → Int)}, EqL k l m → l.flatMap F = m.flatMap F
  | [], [], _ => rfl
  | [], _ :: _, h => by have := h.1; simp at this
  | _ :: _, [], h => by have := h.1; simp at this
  | a :: l, b :: m, h => by
    have h1 : EqL k l m := ⟨by simpa using h.1, fun j x y hx hy => h.2 (j + 1) x y (by simpa using hx) (by simpa using hy)⟩
    rw [List.flatMap_cons, List.flatMap_cons, flatMap_eql hF h1, hF a b (h.2 0 a b rfl rfl)]
theorem numsN_same {A B : Nt} (h : SameN A B) : numsN A = numsN B := by
  unfold numsN midN tailN
  rw [h.k, h.f, h.t, h.ns, h.os.1, h.es.1, flatMap_eql (fun _ _ => opN_congr) h.os, flatMap_eql (fun _ _ => enN_congr) h.es]
theorem bysN_same {A B : Nt} (h : SameN A B) : bysN A = bysN B := by unfold bysN; rw [numsN_same h]

/-! One form for each. -/
theorem numsF_pre {c d : Nat → Int} {X Y : List Int} (h : numsF c ++ X = numsF d ++ Y) : numsF c = numsF d ∧ X = Y := by
  have h9 : (pp (hf c) 65).length = (pp (hf d) 65).length := by
    have := congrArg (fun l : List Int => l.getD 9 0) h
    simp [numsF, hdF] at this
    omega
  exact List.append_inj h (by simp [numsF, hdF, flatP_len, h9])
theorem enN_pre {c d : Nat → Int} {X Y : List Int} (h : enN c ++ X = enN d ++ Y) : enN c = enN d ∧ X = Y := by
  unfold enN at h ⊢
  simp only [List.cons_append, List.cons.injEq] at h
  obtain ⟨h1, h2, h3⟩ := h
  obtain ⟨h4, h5⟩ := numsF_pre h3
  exact ⟨by rw [h1, h2, h4], h5⟩
theorem enN_inj {c d : Nat → Int} (hc : Wf (cE c)) (hd : Wf (cE d)) (h : enN c = enN d) : ∀ i, i < 76 → c i = d i := by
  unfold enN at h
  simp only [List.cons.injEq] at h
  obtain ⟨h1, h2, h3⟩ := h
  obtain ⟨p1, n1, g1, e1, q1⟩ := take_nums (cE c) hc []
  obtain ⟨p2, n2, g2, e2, q2⟩ := take_nums (cE d) hd []
  rw [List.append_nil] at p1 p2 q1 q2
  have hpp : pp (hf (cE c)) 65 = pp (hf (cE d)) 65 := by
    have a := p1.rest
    have b := p2.rest
    rw [h3] at a
    rw [a] at b
    simp only [List.append_nil] at b
    exact flatP_inj _ _ b
  rw [hpp, e2] at e1
  cases e1
  rw [h3] at q1
  intro i hi
  match i, hi with
  | 0, _ => exact h1
  | 1, _ => exact h2
  | j + 2, hi =>
    have := (q1 j (by omega)).symm.trans (q2 j (by omega))
    unfold cE at this
    rwa [Nat.add_comm 2 j] at this
theorem opN_pre {c d : Nat → Int} {X Y : List Int} (h : opNt c ++ X = opNt d ++ Y) : (∀ i, i < 5 → c i = d i) ∧ X = Y := by
  unfold opNt at h
  simp only [List.cons_append, List.nil_append, List.cons.injEq] at h
  obtain ⟨h0, h1, h2, h3, h4, h5⟩ := h
  refine ⟨fun i hi => ?_, h5⟩
  match i, hi with
  | 0, _ => exact h0
  | 1, _ => exact h1
  | 2, _ => exact h2
  | 3, _ => exact h3
  | 4, _ => exact h4
theorem ops_pre : ∀ {l m : List (Nat → Int)} {X Y : List Int}, l.length = m.length → l.flatMap opNt ++ X = m.flatMap opNt ++ Y → EqL 5 l m ∧ X = Y
  | [], [], X, Y, _, h => ⟨.refl _ _, by simpa using h⟩
  | [], _ :: _, _, _, h, _ => by simp at h
  | _ :: _, [], _, _, h, _ => by simp at h
  | a :: l, b :: m, X, Y, h, e => by
    rw [List.flatMap_cons, List.flatMap_cons, List.append_assoc, List.append_assoc] at e
    obtain ⟨h1, h2⟩ := opN_pre e
    obtain ⟨h3, h4⟩ := ops_pre (by simpa using h) h2
    exact ⟨h3.cons h1, h4⟩
theorem ents_pre : ∀ {l m : List (Nat → Int)} {X Y : List Int}, l.length = m.length → (∀ e ∈ l, WE e) → (∀ e ∈ m, WE e) → l.flatMap enN ++ X = m.flatMap enN ++ Y → EqL 76 l m ∧ X = Y
  | [], [], X, Y, _, _, _, h => ⟨.refl _ _, by simpa using h⟩
  | [], _ :: _, _, _, h, _, _, _ => by simp at h
  | _ :: _, [], _, _, h, _, _, _ => by simp at h
  | a :: l, b :: m, X, Y, h, wl, wm, e => by
    rw [List.flatMap_cons, List.flatMap_cons, List.append_assoc, List.append_assoc] at e
    obtain ⟨h1, h2⟩ := enN_pre e
    obtain ⟨h3, h4⟩ := ents_pre (by simpa using h) (fun x hx => wl x (by simp [hx])) (fun x hx => wm x (by simp [hx])) h2
    exact ⟨h3.cons (enN_inj (wl a (by simp)).2.2 (wm b (by simp)).2.2 h1), h4⟩
theorem numsN_inj {A B : Nt} (hA : WN A) (hB : WN B) (h : numsN A = numsN B) : SameN A B := by
  unfold numsN at h
  simp only [List.cons.injEq] at h
  obtain ⟨h1, h2, h3, h4, h5⟩ := h
  obtain ⟨h6, h7⟩ := List.append_inj h5 (by omega)
  unfold midN at h7
  simp only [List.cons.injEq] at h7
  obtain ⟨h8, h9⟩ := h7
  obtain ⟨h10, h11⟩ := ops_pre (by omega) h9
  unfold tailN at h11
  simp only [List.cons.injEq] at h11
  obtain ⟨h12, h13⟩ := h11
  obtain ⟨h14, _⟩ := ents_pre (X := []) (Y := []) (by omega) hA.es hB.es (by simpa using h13)
  exact ⟨h1, h2, h3, h6, h10, h14⟩

/-- What nus reads is, written again, the same. -/
theorem nus_back (l : List Nat) (hb : Byt l) : ∀ r, nus l = some r → numsB r = l ∧ In64 r ∧ r.length ≤ l.length := by
  induction hn : l.length using Nat.strongRecOn generalizing l with
  | _ n ih =>
    intro r hr
    by_cases h0 : l = []
    · subst h0
      rw [nus_nil] at hr
      cases hr
      exact ⟨rfl, fun x hx => (by cases hx), by simp⟩
    · cases hok : nOK l with
      | false => rw [nus_no h0 hok] at hr; cases hr
      | true =>
        rw [nus_go hok] at hr
        obtain ⟨r', h1, rfl⟩ := Option.map_eq_some_iff.1 hr
        have hs := nS_le hok
        have hld : (l.drop (nS l)).length = l.length - nS l := by rw [List.length_drop]
        obtain ⟨h2, h3, h4⟩ := ih (l.drop (nS l)).length (by omega) (l.drop (nS l)) (hb.drop _) rfl r' h1
        refine ⟨?_, fun x hx => ?_, by rw [List.length_cons]; omega⟩
        · show numB (nV l) ++ numsB r' = l
          rw [h2, num_back hb hok, List.take_append_drop]
        · rcases List.mem_cons.1 hx with rfl | hx
          · exact unz_in _ (nVal_lt hb ((nOK_iff l).1 hok).2.1)
          · exact h3 x hx
theorem numsB_inj {a b : List Int} (ha : In64 a) (hb : In64 b) (h : numsB a = numsB b) : a = b := by
  have := nus_put a ha
  rw [h, nus_put b hb] at this
  exact (Option.some.inj this).symm

theorem numsF_fit {c : Nat → Int} (hc : Wf c) : In64 (numsF c) := by
  have hpp : ∀ k, k ≤ 65 → ∀ p ∈ pp (hf c) k, Fit p.1 ∧ Fit p.2 := by
    intro k
    induction k with
    | zero => intro _ p hp; simp [pp] at hp
    | succ k ih =>
      intro hk p hp
      unfold pp at hp
      split at hp
      · exact ih (by omega) p hp
      · rcases List.mem_append.1 hp with h | h
        · exact ih (by omega) p h
        · simp at h
          subst h
          exact ⟨⟨by show (-9223372036854775808 : Int) ≤ (k : Int); omega, by show (k : Int) ≤ 9223372036854775807; omega⟩, hc.2 (9 + k) (by omega) (by omega)⟩
  intro x hx
  unfold numsF at hx
  rcases List.mem_append.1 hx with h | h
  · unfold hdF at h
    have hl := pp_len (hf c) 65
    simp only [List.mem_cons, List.not_mem_nil, or_false] at h
    rcases h with rfl | rfl | rfl | rfl | rfl | rfl | rfl | rfl | rfl | rfl
    · exact hc.2 0 (by omega) (by omega)
    · exact hc.2 1 (by omega) (by omega)
    · unfold wrap64; omega
    · exact hc.2 3 (by omega) (by omega)
    · exact hc.2 4 (by omega) (by omega)
    · exact hc.2 5 (by omega) (by omega)
    · exact hc.2 6 (by omega) (by omega)
    · exact hc.2 7 (by omega) (by omega)
    · exact hc.2 8 (by omega) (by omega)
    · omega
  · unfold flatP at h
    obtain ⟨p, hp, h⟩ := List.mem_flatMap.1 h
    have := hpp 65 (by omega) p hp
    simp at h
    rcases h with rfl | rfl
    · exact this.1
    · exact this.2
theorem numsN_fit {N : Nt} (h : WN N) (h1 : N.ns.length ≤ 1000000) (h2 : N.os.length ≤ 1000000) (h3 : N.es.length ≤ 1000000) : In64 (numsN N) := by
  intro x hx
  unfold numsN midN tailN at hx
  simp only [List.mem_cons, List.mem_append] at hx
  rcases hx with rfl | rfl | rfl | rfl | hx | rfl | hx | rfl | hx
  · exact h.k
  · exact h.f
  · exact h.t
  · omega
  · exact h.ns x hx
  · omega
  · obtain ⟨o, ho, hx⟩ := List.mem_flatMap.1 hx
    have := h.os o ho
    unfold opNt at hx
    simp at hx
    rcases hx with rfl | rfl | rfl | rfl | rfl
    · exact this 0 (by omega)
    · exact this 1 (by omega)
    · exact this 2 (by omega)
    · exact this 3 (by omega)
    · exact this 4 (by omega)
  · omega
  · obtain ⟨e, he, hx⟩ := List.mem_flatMap.1 hx
    obtain ⟨w0, w1, w2⟩ := h.es e he
    unfold enN at hx
    rcases List.mem_cons.1 hx with rfl | hx
    · exact w0
    · rcases List.mem_cons.1 hx with rfl | hx
      · exact w1
      · exact numsF_fit w2 x hx

/-! Which notes are in form. -/
def FitK (k : Int) (n o e : Nat) : Prop :=
  ((k = 1 ∨ k = 4 ∨ k = 9) ∧ n = 4 ∧ o = 0 ∧ e = 0) ∨ (k = 2 ∧ 7 ≤ n ∧ n ≤ 39 ∧ o = 0 ∧ e = 0) ∨ (k = 3 ∧ 4 ≤ n ∧ n ≤ 36 ∧ o = 0 ∧ e = 0) ∨ (k = 5 ∧ n = 7 ∧ o = 0 ∧ e = 0) ∨
  (k = 6 ∧ 1 ≤ n ∧ n ≤ 25 ∧ n % 2 = 1 ∧ o = 0 ∧ e = 0) ∨ (k = 7 ∧ 2 ≤ n ∧ n ≤ 26 ∧ n % 2 = 0 ∧ o ≤ 16 ∧ e = 0) ∨ (k = 8 ∧ n = 6 ∧ o = 0 ∧ e ≤ 16)
structure GoodN (N : Nt) : Prop where
  f : 0 ≤ N.f ∧ N.f ≤ 999
  t : 0 ≤ N.t ∧ N.t ≤ 999
  fit : FitK N.k N.ns.length N.os.length N.es.length
  os : ∀ o ∈ N.os, o 1 = 1 ∨ o 1 = 2
theorem fitK_le {k : Int} {n o e : Nat} (h : FitK k n o e) : 1 ≤ k ∧ k ≤ 9 ∧ n ≤ 39 ∧ o ≤ 16 ∧ e ≤ 16 ∧ (0 < o → n ≤ 26 ∧ e = 0) ∧ (0 < e → n = 6 ∧ o = 0) := by
  unfold FitK at h; omega
theorem GoodN.same {A B : Nt} (h : SameN A B) (g : GoodN A) : GoodN B := by
  refine ⟨by rw [← h.f]; exact g.f, by rw [← h.t]; exact g.t, by rw [← h.k, ← h.ns, ← h.os.1, ← h.es.1]; exact g.fit, fun o ho => ?_⟩
  obtain ⟨j, hj⟩ := List.getElem?_of_mem ho
  have hlt := (List.getElem?_eq_some_iff.1 hj).1
  have hA : A.os[j]? = some (A.os[j]'(by rw [h.os.1]; exact hlt)) := List.getElem?_eq_getElem _
  have := h.os.2 j _ o hA hj 1 (by omega)
  rw [← this]
  exact g.os _ (List.mem_of_getElem? hA)

/-! How long a note's bytes are. -/
theorem leB_small (u : Nat) (h : u < 256) : (leB 8 u).length ≤ 1 := by
  have h1 := leB_le 8 u
  by_cases h0 : u = 0
  · subst h0; decide
  · unfold leB
    rw [if_neg h0]
    have : u / 256 = 0 := by omega
    rw [this]
    simp [leB]
theorem numB_small (n : Int) (h0 : 0 ≤ n) (h1 : n < 128) : (numB n).length ≤ 2 := by
  have : zig n < 256 := by unfold zig; rw [if_neg (by omega)]; omega
  have := leB_small (zig n) this
  simp [numB]; omega
theorem numsB_append (a b : List Int) : numsB (a ++ b) = numsB a ++ numsB b := by simp [numsB]
theorem numsB_cons (a : Int) (b : List Int) : numsB (a :: b) = numB a ++ numsB b := by simp [numsB]
theorem pp_bytes (h : Nat → Int) : ∀ k, k ≤ 65 → (numsB (flatP (pp h k))).length ≤ 11 * k
  | 0, _ => by simp [pp, flatP, numsB]
  | k + 1, hk => by
    have ih := pp_bytes h k (by omega)
    unfold pp
    split
    · omega
    · rw [flatP_snoc, numsB_append, numsB_cons, numsB_cons]
      have a := numB_small (k : Int) (by omega) (by omega)
      have b := (numB_len (h k)).1
      simp only [List.length_append]
      have : (numsB []).length = 0 := rfl
      omega
theorem numsF_bytes (c : Nat → Int) : (numsB (numsF c)).length ≤ 805 := by
  unfold numsF
  rw [numsB_append, List.length_append]
  have h1 := pp_bytes (hf c) 65 (by omega)
  have h2 := numsB_len (hdF c ((pp (hf c) 65).length : Int))
  have h3 : (hdF c ((pp (hf c) 65).length : Int)).length = 10 := rfl
  omega
theorem enN_bytes (e : Nat → Int) : (numsB (enN e)).length ≤ 823 := by
  unfold enN
  rw [numsB_cons, numsB_cons, List.length_append, List.length_append]
  have := numsF_bytes (cE e)
  have := (numB_len (e 0)).1
  have := (numB_len (e 1)).1
  omega
theorem ents_bytes : ∀ es : List (Nat → Int), (numsB (es.flatMap enN)).length ≤ 823 * es.length
  | [] => by simp [numsB]
  | e :: es => by
    have := ents_bytes es
    have := enN_bytes e
    rw [List.flatMap_cons, numsB_append, List.length_append, List.length_cons]
    omega
theorem ops_bytes : ∀ os : List (Nat → Int), (os.flatMap opNt).length = 5 * os.length
  | [] => rfl
  | o :: os => by
    have := ops_bytes os
    rw [List.flatMap_cons, List.length_append, List.length_cons, this]
    simp [opNt]; omega
/-- Every note in form has bytes. -/
theorem good_fits {N : Nt} (g : GoodN N) : (numsB (numsN N)).length ≤ 16376 := by
  have h := fitK_le g.fit
  unfold numsN midN tailN
  simp only [numsB_cons, numsB_append, List.length_append]
  have h1 := (numB_len N.k).1
  have h2 := (numB_len N.f).1
  have h3 := (numB_len N.t).1
  have h4 := (numB_len (N.ns.length : Int)).1
  have h5 := (numB_len (N.os.length : Int)).1
  have h6 := (numB_len (N.es.length : Int)).1
  have h7 := numsB_len N.ns
  have h8 := numsB_len (N.os.flatMap opNt)
  rw [ops_bytes] at h8
  have h9 := ents_bytes N.es
  omega
theorem ents_count : ∀ es : List (Nat → Int), (es.flatMap enN).length ≤ 142 * es.length ∧ 12 * es.length ≤ (es.flatMap enN).length
  | [] => by simp
  | e :: es => by
    have := ents_count es
    have := numsF_len (cE e)
    rw [List.flatMap_cons, List.length_append, List.length_cons]
    have : (enN e).length = 2 + (numsF (cE e)).length := by simp [enN]; omega
    omega
theorem numsN_len (N : Nt) : (numsN N).length = 6 + N.ns.length + 5 * N.os.length + (N.es.flatMap enN).length := by
  unfold numsN midN tailN
  simp only [List.length_cons, List.length_append, ops_bytes]
  omega
theorem good_count {N : Nt} (g : GoodN N) : (numsN N).length ≤ 4000 := by
  have h := fitK_le g.fit
  have := ents_count N.es
  rw [numsN_len]
  omega
theorem frm_inj {a b : List Nat} (ha : a.length ≤ 16376) (hb : b.length ≤ 16376) (h : frm a = frm b) : a = b := by
  have h1 := (ins_frm a [] ha).2
  have h2 := (ins_frm b [] hb).2
  rw [List.append_nil] at h1 h2
  rw [← h1, ← h2, h]
theorem bysN_inj {A B : Nt} (hA : WN A) (hB : WN B) (gA : GoodN A) (gB : GoodN B) (h : bysN A = bysN B) : SameN A B := by
  have a := fitK_le gA.fit
  have b := fitK_le gB.fit
  refine numsN_inj hA hB (numsB_inj (numsN_fit hA (by omega) (by omega) (by omega)) (numsN_fit hB (by omega) (by omega) (by omega)) ?_)
  exact frm_inj (good_fits gA) (good_fits gB) h
end Go.Proofs.Ytoeilckeebojmaa
namespace Go.Proofs.Ytoeilckeebojmaa
set_option maxRecDepth 100000
open Go.RowKit Go.Shelf
set_option linter.unusedVariables false

/-- The cells of a struct of numbers. -/
def AG (k : Nat) (ks : Nat → IntKind) (c : Nat → Int) : Array Value := ((List.range k).map fun i => Value.int (ks i) (c i)).toArray
def k64 : Nat → IntKind := fun _ => .i64
def ek (i : Nat) : IntKind := if i = 4 then .u64 else .i64
theorem AG_size (k : Nat) (ks : Nat → IntKind) (c : Nat → Int) : (AG k ks c).size = k := by simp [AG]
theorem AG_len (k : Nat) (ks : Nat → IntKind) (c : Nat → Int) : (AG k ks c).toList.length = k := by simp [AG]
theorem AG_at (k : Nat) (ks : Nat → IntKind) (c : Nat → Int) (i : Nat) (h : i < k) : (AG k ks c).toList[i]? = some (.int (ks i) (c i)) := by simp [AG, h]
theorem AG_congr {k : Nat} {ks : Nat → IntKind} {c d : Nat → Int} (h : ∀ i, i < k → c i = d i) : AG k ks c = AG k ks d := by
  unfold AG
  congr 1
  exact List.map_congr_left fun i hi => by rw [h i (List.mem_range.1 hi)]
theorem AG_one (k : Nat) (ks : Nat → IntKind) (c : Nat → Int) : ∀ u ∈ (AG k ks c).toList, u.oneCell' = true := by
  intro u hu
  simp [AG] at hu
  obtain ⟨i, _, rfl⟩ := hu
  rfl
abbrev EA (e : Nat → Int) : Array Value := AG 76 ek e
abbrev OA (o : Nat → Int) : Array Value := AG 5 k64 o

/-- A row of structs. -/
def StRow (k : Nat) (ks : Nat → IntKind) (W : World) (g off : Nat) (l : List (Nat → Int)) : Prop := ∀ j c, l[j]? = some c → W.rangeAt g (off + j * k) (AG k ks c).toList
/-- A slice of structs. -/
def SR (k : Nat) (ks : Nat → IntKind) (W : World) (v : Value) (l : List (Nat → Int)) : Prop := ∃ q cap g off, v = .slice q l.length cap ∧ l.length ≤ cap ∧ cap ≤ 9223372036854775807 ∧ (0 < l.length → q = some ⟨g, off, none⟩) ∧ (0 < l.length → g < W.heap.size) ∧ StRow k ks W g off l
theorem StRow.keep {k : Nat} {ks : Nat → IntKind} {W W' : World} {g off : Nat} {l : List (Nat → Int)} (h : StRow k ks W g off l) (hg : 0 < l.length → g < W.heap.size) (hb : Below W.heap.size W W') : StRow k ks W' g off l := by
  intro j c hj i v hv
  have hlt := hg (by have := (List.getElem?_eq_some_iff.1 hj).1; omega)
  exact (hb.cell (p := ⟨g, _, none⟩) hlt).trans (h j c hj i v hv)
theorem SR.keep {k : Nat} {ks : Nat → IntKind} {W W' : World} {v : Value} {l : List (Nat → Int)} (h : SR k ks W v l) (hb : Below W.heap.size W W') : SR k ks W' v l := by
  obtain ⟨q, cap, g, off, h1, h2, h3, h4, h5, h6⟩ := h
  exact ⟨q, cap, g, off, h1, h2, h3, h4, fun h => Nat.lt_of_lt_of_le (h5 h) hb.size, h6.keep h5 hb⟩
theorem SR.nil (k : Nat) (ks : Nat → IntKind) (W : World) : SR k ks W (.slice none 0 0) [] := ⟨none, 0, 0, 0, rfl, Nat.le_refl _, by omega, fun h => absurd h (by simp), fun h => absurd h (by simp), fun j c h => by simp at h⟩
theorem SR.congr {k : Nat} {ks : Nat → IntKind} {W : World} {v : Value} {l m : List (Nat → Int)} (h : SR k ks W v l) (he : EqL k l m) : SR k ks W v m := by
  obtain ⟨q, cap, g, off, h1, h2, h3, h4, h5, h6⟩ := h
  rw [he.1] at h1 h2 h4 h5
  refine ⟨q, cap, g, off, h1, h2, h3, h4, h5, fun j c hj => ?_⟩
  have hlt : j < l.length := by have := (List.getElem?_eq_some_iff.1 hj).1; rw [he.1]; exact this
  have := h6 j _ (List.getElem?_eq_getElem hlt)
  rwa [AG_congr (he.2 j _ c (List.getElem?_eq_getElem hlt) hj)] at this
def flatA (k : Nat) (ks : Nat → IntKind) (l : List (Nat → Int)) : List Value := l.flatMap fun c => (AG k ks c).toList
theorem flatA_len (k : Nat) (ks : Nat → IntKind) : ∀ l, (flatA k ks l).length = l.length * k
  | [] => by simp [flatA]
  | c :: l => by
    have := flatA_len k ks l
    unfold flatA at this ⊢
    rw [List.flatMap_cons, List.length_append, this, AG_len, List.length_cons, Nat.add_mul, Nat.one_mul, Nat.add_comm]
theorem flatA_append (k : Nat) (ks : Nat → IntKind) (l m : List (Nat → Int)) : flatA k ks l ++ flatA k ks m = flatA k ks (l ++ m) := by simp [flatA]
theorem flatA_one (k : Nat) (ks : Nat → IntKind) (l : List (Nat → Int)) : ∀ u ∈ flatA k ks l, u.oneCell' = true := by
  intro u hu
  obtain ⟨c, _, h⟩ := List.mem_flatMap.1 hu
  exact AG_one k ks c u h
theorem flatA_at (k : Nat) (ks : Nat → IntKind) : ∀ (l : List (Nat → Int)) (j : Nat) (c : Nat → Int), l[j]? = some c → ∀ i v, (AG k ks c).toList[i]? = some v → (flatA k ks l)[j * k + i]? = some v
  | [], j, c, h, _, _, _ => by simp at h
  | d :: l, 0, c, h, i, v, hv => by
    simp at h
    subst h
    have hlt := (List.getElem?_eq_some_iff.1 hv).1
    unfold flatA
    rw [List.flatMap_cons, Nat.zero_mul, Nat.zero_add, List.getElem?_append_left hlt, hv]
  | d :: l, j + 1, c, h, i, v, hv => by
    have := flatA_at k ks l j c (by simpa using h) i v hv
    unfold flatA at this ⊢
    rw [List.flatMap_cons, List.getElem?_append_right (by rw [AG_len, Nat.add_mul]; omega), AG_len, ← this]
    congr 1
    rw [Nat.add_mul]; omega
theorem flatA_div (k : Nat) (ks : Nat → IntKind) (hk : 0 < k) (l : List (Nat → Int)) (j : Nat) (u : Value) (h : (flatA k ks l)[j]? = some u) : ∃ c, l[j / k]? = some c ∧ (AG k ks c).toList[j % k]? = some u := by
  have hlt := (List.getElem?_eq_some_iff.1 h).1
  rw [flatA_len] at hlt
  have hj : j / k < l.length := Nat.div_lt_of_lt_mul (by rwa [Nat.mul_comm])
  refine ⟨_, List.getElem?_eq_getElem hj, ?_⟩
  have hm : j % k < k := Nat.mod_lt _ hk
  have := flatA_at k ks l (j / k) _ (List.getElem?_eq_getElem hj) (j % k) _ (AG_at k ks _ _ hm)
  rw [Nat.mul_comm, Nat.div_add_mod, h] at this
  rw [AG_at k ks _ _ hm, this]
/-- A slice of structs of the call's own. -/
def SO (e : TypeId) (k : Nat) (ks : Nat → IntKind) (W : World) (base : Nat) (v : Value) (l : List (Nat → Int)) : Prop := W.ownsRow base e k v l.length (flatA k ks l)
theorem SO.sr {e : TypeId} {k : Nat} {ks : Nat → IntKind} {W : World} {base : Nat} {v : Value} {l : List (Nat → Int)} (h : SO e k ks W base v l) (hk : 0 < k) : SR k ks W v l := by
  obtain ⟨h1, q, g, cap, h2, h3, h4, h5, h6, h7, h8, hc, h9⟩ := own_open h hk
  refine ⟨q, cap, g, 0, h2, h7, h8, h3, h4, fun j c hj i v hv => ?_⟩
  rw [Nat.zero_add]
  exact hc _ _ (flatA_at k ks l j c hj i v hv)
theorem so_of {e : TypeId} {k : Nat} {ks : Nat → IntKind} {W : World} {base n : Nat} {v : Value} {l : List (Nat → Int)} (h : W.ownsRow base e k v n (flatA k ks l)) (hk : 0 < k) : SO e k ks W base v l := by
  have := h.1
  rw [flatA_len] at this
  have hn : l.length = n := Nat.eq_of_mul_eq_mul_right hk this
  unfold SO
  rwa [hn]
theorem SO.keep {e : TypeId} {k : Nat} {ks : Nat → IntKind} {W W' : World} {base : Nat} {v : Value} {l : List (Nat → Int)} (h : SO e k ks W base v l) (hb : Below W.heap.size W W') : SO e k ks W' base v l := own_keep h hb
theorem SR.src {k : Nat} {ks : Nat → IntKind} {W : World} {v : Value} {l : List (Nat → Int)} (h : SR k ks W v l) (hk : 0 < k) : ∃ q cap, v = .slice q l.length cap ∧ (q = none → l.length = 0) ∧ (∀ ad, q = some ad → ∀ j u, (flatA k ks l)[j]? = some u → W.cell? (ad.add j) = some u) := by
  obtain ⟨q, cap, g, off, h1, h2, h3, h4, h5, h6⟩ := h
  refine ⟨q, cap, h1, fun hq => ?_, fun ad had j u hu => ?_⟩
  · by_cases h0 : 0 < l.length
    · have := h4 h0; rw [hq] at this; cases this
    · omega
  · obtain ⟨c, hc, hu'⟩ := flatA_div k ks hk l j u hu
    have h0 : 0 < l.length := Nat.lt_of_le_of_lt (Nat.zero_le _) (List.getElem?_eq_some_iff.1 hc).1
    have := h4 h0
    rw [had] at this
    cases this
    have := h6 _ c hc _ u hu'
    rw [Addr.add_mid]
    rwa [Nat.add_assoc, Nat.mul_comm, Nat.div_add_mod] at this

/-- A note in memory. -/
structure NV (W : World) (x : Value) (N : Nt) (vn vo ve : Value) : Prop where
  eq : x = .agg #[.int .i64 N.k, .int .i64 N.f, .int .i64 N.t, vn, vo, ve]
  ns : Is W vn N.ns
  os : SR 5 k64 W vo N.os
  es : SR 76 ek W ve N.es
theorem NV.keep {W W' : World} {x : Value} {N : Nt} {vn vo ve : Value} (h : NV W x N vn vo ve) (hb : Below W.heap.size W W') : NV W' x N vn vo ve := ⟨h.eq, h.ns.keep hb, h.os.keep hb, h.es.keep hb⟩

section
variable {ops : Array Oper} {rest : List Oper} {o : Oper} {a : Act} {w : World} {Q : Exit → Act → World → Prop}
theorem info_ent (e : Nat → Int) : (Try.prog.info? 107).map (·.size) = some (EA e).size := by rw [AG_size]; kernel_rfl
theorem zero_ent (w : World) : (zeroValue 107).run Try.prog w = .ok (.agg (EA zc)) w := by kernel_rfl
theorem ld_ent (hgd : o.guard = none) {x : Operand} (ho : o.op = .load 107 x) {b q : Nat} {c : Nat → Int} (hr : w.rangeAt b q (EA c).toList) (hx : a.eval x = .pointer (some ⟨b, q, none⟩))
    (h : wpList Try.prog ops Q rest (a.put o.dst (.agg (EA c))) w) : wpList Try.prog ops Q (o :: rest) a w := by
  refine wpList_load_mid hgd _ x ho b q hx _ _ hr Try.underlying107 rfl ?_ (by simpa using h)
  rw [info_ent c]; simp
theorem infoOp : (Try.prog.info? 27).map (fun i => (i.zero, i.size, i.bytes)) = some (some (.agg (OA zc)), 5, 40) := by kernel_rfl
theorem infoEnt : (Try.prog.info? 107).map (fun i => (i.zero, i.size, i.bytes)) = some (some (.agg (EA zc)), 76, 608) := by kernel_rfl
theorem al_ent (hgd : o.guard = none) (ho : o.op = .alloc 107)
    (h : ∀ W', W' = w.alloc (.cells (EA zc) 107) → Blk W' w.heap.size (EA zc) 107 → Below w.heap.size w W' → wpList Try.prog ops Q rest (a.put o.dst (.pointer (some ⟨w.heap.size, 0, none⟩))) W') : wpList Try.prog ops Q (o :: rest) a w :=
  al_blk hgd ho _ (zero_ent w) h
end
end Go.Proofs.Ytoeilckeebojmaa
namespace Go.Proofs.Ytoeilckeebojmaa
set_option maxRecDepth 100000
open Go.RowKit Go.Shelf
set_option linter.unusedVariables false

/-- A call that answers whether something holds. -/
def BIff (r : Ending) (P : Prop) : Prop := ∃ z : Bool, r = .returned (.bool z) ∧ (z = true ↔ P)
/-- What the notes of a Kind have. -/
def shp (k : Int) : Option (Int × Int × Int × Int × Int) :=
  if k = 1 ∨ k = 4 then some (4, 1, 0, 0, 0) else if k = 2 then some (7, 1, 32, 0, 0) else if k = 3 then some (4, 1, 32, 0, 0) else if k = 5 then some (7, 1, 0, 0, 0) else if k = 6 then some (1, 2, 12, 0, 0)
  else if k = 7 then some (2, 2, 12, 16, 0) else if k = 8 then some (6, 1, 0, 0, 16) else if k = 9 then some (4, 1, 0, 0, 0) else none
abbrev shV (a b c d e : Int) : Value := .agg #[.int .i64 a, .int .i64 b, .int .i64 c, .int .i64 d, .int .i64 e]

def FitS (a b c d e : Int) (n o p : Nat) : Prop := a ≤ (n : Int) ∧ ((n : Int) - a) % b = 0 ∧ ((n : Int) - a) / b ≤ c ∧ (o : Int) ≤ d ∧ (p : Int) ≤ e
theorem shp_fits (k : Int) (n o p : Nat) : FitK k n o p ↔ ∃ a b c d e, shp k = some (a, b, c, d, e) ∧ FitS a b c d e n o p := by
  constructor
  · intro h
    have hk := (fitK_le h)
    have : k = 1 ∨ k = 2 ∨ k = 3 ∨ k = 4 ∨ k = 5 ∨ k = 6 ∨ k = 7 ∨ k = 8 ∨ k = 9 := by omega
    rcases this with rfl | rfl | rfl | rfl | rfl | rfl | rfl | rfl | rfl <;> (refine ⟨_, _, _, _, _, rfl, ?_⟩; unfold FitK at h; unfold FitS; omega)
  · rintro ⟨a, b, c, d, e, h1, h2⟩
    by_cases hk : k = 1 ∨ k = 2 ∨ k = 3 ∨ k = 4 ∨ k = 5 ∨ k = 6 ∨ k = 7 ∨ k = 8 ∨ k = 9
    · rcases hk with rfl | rfl | rfl | rfl | rfl | rfl | rfl | rfl | rfl <;>
        (simp [shp] at h1
         obtain ⟨rfl, rfl, rfl, rfl, rfl⟩ := h1
         unfold FitS at h2
         unfold FitK
         omega)
    · unfold shp at h1
      rw [if_neg (by omega), if_neg (by omega), if_neg (by omega), if_neg (by omega), if_neg (by omega), if_neg (by omega), if_neg (by omega), if_neg (by omega)] at h1
      cases h1
theorem shp_two {k a b c d e : Int} (h : shp k = some (a, b, c, d, e)) : (b = 1 ∨ b = 2) ∧ 0 ≤ a ∧ a ≤ 7 ∧ 0 ≤ c ∧ c ≤ 32 := by
  have hk : k = 1 ∨ k = 2 ∨ k = 3 ∨ k = 4 ∨ k = 5 ∨ k = 6 ∨ k = 7 ∨ k = 8 ∨ k = 9 := by
    refine Classical.byContradiction fun hn => ?_
    unfold shp at h
    rw [if_neg (by omega), if_neg (by omega), if_neg (by omega), if_neg (by omega), if_neg (by omega), if_neg (by omega), if_neg (by omega), if_neg (by omega)] at h
    cases h
  rcases hk with rfl | rfl | rfl | rfl | rfl | rfl | rfl | rfl | rfl <;> (simp [shp] at h; omega)

end Go.Proofs.Ytoeilckeebojmaa
namespace Go.Proofs.Ytoeilckeebojmaa
set_option maxRecDepth 100000
open Go.RowKit Go.Shelf
set_option linter.unusedVariables false

theorem cells_op {W : World} {g off : Nat} {o : Nat → Int} (h : W.rangeAt g off (OA o).toList) : W.cell? ⟨g, off, none⟩ = some (.int .i64 (o 0)) ∧ W.cell? ⟨g, off + 1, none⟩ = some (.int .i64 (o 1)) ∧ W.cell? ⟨g, off + 2, none⟩ = some (.int .i64 (o 2)) ∧ W.cell? ⟨g, off + 3, none⟩ = some (.int .i64 (o 3)) ∧ W.cell? ⟨g, off + 4, none⟩ = some (.int .i64 (o 4)) :=
  ⟨h 0 _ rfl, h 1 _ rfl, h 2 _ rfl, h 3 _ rfl, h 4 _ rfl⟩
/-- A note's value. -/
abbrev ntV (N : Nt) (vn vo ve : Value) : Value := .agg #[.int .i64 N.k, .int .i64 N.f, .int .i64 N.t, vn, vo, ve]

/-- What Check answers. -/
def CkP (N : Nt) (e : Ending) : Prop := (GoodN N → e = .returned .nilIface) ∧ (¬ GoodN N → e = .returned (Err 2))
theorem notSome {k : Int} (h : ∀ a b c d e, shp k ≠ some (a, b, c, d, e)) : shp k = none := by
  cases e : shp k with
  | none => rfl
  | some x => obtain ⟨a, b, c, d, f⟩ := x; exact absurd e (h a b c d f)

end Go.Proofs.Ytoeilckeebojmaa
namespace Go.Proofs.Ytoeilckeebojmaa
set_option maxRecDepth 100000
open Go.RowKit Go.Shelf
set_option linter.unusedVariables false

theorem isl4n (a b c d : Int) (w : World) : (Instr.buildSlice 23 4 #[(0, .int .i64 a), (1, .int .i64 b), (2, .int .i64 c), (3, .int .i64 d)]).run Try.prog w = .ok (.slice (some ⟨w.heap.size, 0, none⟩) 4 4) (w.alloc (.cells (ints [a, b, c, d]).toArray 3)) := by kernel_rfl
theorem isl5n (a b c d e : Int) (w : World) : (Instr.buildSlice 23 5 #[(0, .int .i64 a), (1, .int .i64 b), (2, .int .i64 c), (3, .int .i64 d), (4, .int .i64 e)]).run Try.prog w = .ok (.slice (some ⟨w.heap.size, 0, none⟩) 5 5) (w.alloc (.cells (ints [a, b, c, d, e]).toArray 3)) := by kernel_rfl
theorem ent_cell {W : World} {b q : Nat} {e : Nat → Int} (h : W.rangeAt b q (EA e).toList) : W.rangeAt b (q + 2) (CA (cE e)).toList := by
  intro i v hv
  have hi : i < 74 := by have := (List.getElem?_eq_some_iff.1 hv).1; simpa [CA] using this
  have e1 : (CA (cE e)).toList[i]? = some (.int (ck i) (cE e i)) := by simp [CA, hi]
  rw [e1] at hv
  cases hv
  have := h (2 + i) _ (AG_at 76 ek e (2 + i) (by omega))
  have e2 : ek (2 + i) = ck i := by
    unfold ek ck
    by_cases h2 : i = 2
    · subst h2; rfl
    · rw [if_neg (by omega), if_neg h2]
  rw [e2] at this
  rw [Nat.add_assoc]
  exact this
theorem blk_range {W : World} {b : Nat} {vs : Array Value} {t : TypeId} (h : Blk W b vs t) : W.rangeAt b 0 vs.toList := by
  intro i v hv
  rw [Nat.zero_add]
  exact h.at (by simpa using hv)
theorem EA_two {W : World} {b q : Nat} {e : Nat → Int} (h : W.rangeAt b q (EA e).toList) : W.cell? ⟨b, q, none⟩ = some (.int .i64 (e 0)) ∧ W.cell? ⟨b, q + 1, none⟩ = some (.int .i64 (e 1)) :=
  ⟨h 0 _ (AG_at 76 ek e 0 (by omega)), h 1 _ (AG_at 76 ek e 1 (by omega))⟩
/-- A block beside an own row. -/
theorem own_other {W : World} {base b n : Nat} {v : Value} {l : List Int} {e : TypeId} {vs : Array Value} {t : TypeId} (h : W.ownsRow base e 1 v n (ints l)) (hB : Blk W b vs t) (hn : t ≠ e) : v.ownBlock ≠ some b := by
  intro hv
  rcases h.2 with ⟨h2, _⟩ | ⟨g, cap, cur, h2, hb, hg, _⟩
  · rw [h2] at hv; cases hv
  · rw [h2] at hv
    have hv' : g = b := by simpa [Value.ownBlock] using hv
    subst hv'
    unfold Blk at hB
    rw [hg] at hB
    injection hB with hB
    injection hB with _ h2 _
    exact hn h2.symm
theorem blk_grown {W W' : World} {b : Nat} {vs : Array Value} {t : TypeId} {r : Option Nat} (hB : Blk W b vs t) (hg : W.grownBy W' r) (hn : r ≠ some b) : Blk W' b vs t :=
  (hg.block b hB.lt (fun h => hn h.symm)).trans hB
section
variable {ops : Array Oper} {rest : List Oper} {o : Oper} {a : Act} {w : World} {Q : Exit → Act → World → Prop}
theorem st_ent (hgd : o.guard = none) {x y : Operand} (ho : o.op = .store 107 x y) {b : Nat} {c d : Nat → Int} {t : TypeId} (hB : Blk w b (EA d) t) (hx : a.eval x = .pointer (some ⟨b, 0, none⟩)) (hy : a.eval y = .agg (EA c))
    (h : ∀ W', Blk W' b (EA c) t → Chg b w W' → wpList Try.prog ops Q rest (a.put o.dst undef) W') : wpList Try.prog ops Q (o :: rest) a w :=
  st_blk hgd ho hB hx hy (info_ent c) (by rw [AG_size, AG_size]) (by rw [Array.all_eq_true']; intro x hx; exact AG_one 76 ek c x (by simpa using hx)) h
theorem ld_cellA (hgd : o.guard = none) {x : Operand} (ho : o.op = .load 54 x) {b q : Nat} {c : Nat → Int} (hr : w.rangeAt b q (CA c).toList) (hx : a.eval x = .pointer (some ⟨b, q, none⟩))
    (h : wpList Try.prog ops Q rest (a.put o.dst (.agg (CA c))) w) : wpList Try.prog ops Q (o :: rest) a w := ld_cell_mid hgd ho hr hx h
end

end Go.Proofs.Ytoeilckeebojmaa
namespace Go.Proofs.Ytoeilckeebojmaa
set_option maxRecDepth 100000
open Go.RowKit Go.Shelf
set_option linter.unusedVariables false

end Go.Proofs.Ytoeilckeebojmaa
