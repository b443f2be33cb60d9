/-
  The numbers of a cell: cell.Nums.
  cell.Take at every row of numbers; cells compared by '!='.
  Plain mathematics of notes: their numbers, their bytes, which are in form. Nothing here names the program.
-/
import Derived.Test.YtlhamckpgijjmaaPk16
import Derived.Maps.OwnIn
import Derived.Test.YtlhamckpgijjmaaPk11
namespace Go.Proofs.Ytlhamckpgijjmaa
open Go.RowKit Go.Shelf
set_option linter.unusedVariables false
attribute [local go_sem] Oper.semAt_some

theorem own_kept {W W' : World} {row : Option Nat} {base e size n : Nat} {v : Value} {xs : List Value} (h : W.ownsRow base e size v n xs) (hg : W.grownBy W' row) (hr : ∀ r, row = some r → ∃ o : Obj, W.heap[r]? = some o ∧ o.isCells = false) : W'.ownsRow base e size v n xs := by
  refine ⟨h.1, ?_⟩
  rcases h.2 with h2 | ⟨g, cap, cur, h1, h2, h3, h4⟩
  · exact .inl h2
  · exact .inr ⟨g, cap, cur, h1, h2, blk_kept (b := g) h3 hg hr, h4⟩
/-- A number is written into an own row. -/
theorem own_set {W : World} {base n g cap i : Nat} {l : List Int} (h : W.ownsRow base 3 1 (.slice (some ⟨g, 0, none⟩) n cap) n (ints l)) (hi : i < n) (x : Int) :
    (W.setCell ⟨g, i, none⟩ (.int .i64 x)).ownsRow base 3 1 (.slice (some ⟨g, 0, none⟩) n cap) n (ints (l.set i x)) := by
  have hlen : l.length = n := by have := h.1; rw [ints_len, Nat.mul_one] at this; exact this
  rcases h.2 with ⟨h2, _⟩ | ⟨g', cap', cur, e, hb, hg, hnc, hcm, hcs, ht⟩
  · cases h2
  · cases e
    refine ⟨by rw [ints_len, List.length_set, hlen, Nat.mul_one], .inr ⟨g, cap, cur.setIfInBounds i (.int .i64 x), rfl, hb, Blk.set hg i _, hnc, hcm, by simpa using hcs, ?_⟩⟩
    rw [Array.toList_setIfInBounds, List.take_set, ht]
    simp [ints, List.map_set]
theorem own_blk {W : World} {base n g cap : Nat} {l : List Value} (h : W.ownsRow base 3 1 (.slice (some ⟨g, 0, none⟩) n cap) n l) : ∃ cur, Blk W g cur 3 := by
  rcases h.2 with ⟨h2, _⟩ | ⟨g', cap', cur, e, hb, hg, _⟩
  · cases h2
  · cases e; exact ⟨cur, hg⟩
theorem blk_apart {W : World} {b c : Nat} {vs us : Array Value} {t u : TypeId} (h : Blk W b vs t) (k : Blk W c us u) (hn : t ≠ u) : b ≠ c := by
  rintro rfl
  have e : W.heap[b]? = _ := h
  have f : W.heap[b]? = _ := k
  rw [e] at f
  cases f
  exact hn rfl
theorem own_chg {W W' : World} {base n g cap b : Nat} {l : List Value} (h : W.ownsRow base 3 1 (.slice (some ⟨g, 0, none⟩) n cap) n l) (hc : Chg b W W') (hn : g ≠ b) : W'.ownsRow base 3 1 (.slice (some ⟨g, 0, none⟩) n cap) n l := by
  refine ⟨h.1, ?_⟩
  rcases h.2 with ⟨h2, _⟩ | ⟨g', cap', cur, e, hb, hg, h4⟩
  · cases h2
  · cases e
    exact .inr ⟨g, cap, cur, rfl, hb, Blk.chg hg hc hn, h4⟩
section
variable {F : Fence} {fu : Nat} {ops : Array Oper} {rest : List Oper} {o : Oper} {a : Act} {w : World} {Q : Exit → Act → World → Prop}
theorem bs_ownI (hgd : o.guard = none) {n : Nat} {parts : Array (Nat × Operand)} (ho : o.op = .buildSlice 31 n parts) (xs : List Int) {vs : Array (Nat × Value)} (hl : parts.map (fun (i, x) => (i, a.eval x)) = vs)
    (hrun : (Instr.buildSlice 31 n vs).run Try.prog w = .ok (.slice (some ⟨w.heap.size, 0, none⟩) n n) (w.alloc (.cells (ints xs).toArray 3))) (hn : xs.length = n) (hm : n ≤ maxLen)
    (h : ∀ W', W' = w.alloc (.cells (ints xs).toArray 3) → W'.ownsRow w.heap.size 3 1 (.slice (some ⟨w.heap.size, 0, none⟩) n n) n (ints xs) → Below w.heap.size w W' → wpListIn F fu Try.prog ops Q rest (a.put o.dst (.slice (some ⟨w.heap.size, 0, none⟩) n n)) W') : wpListIn F fu Try.prog ops Q (o :: rest) a w := by
  refine wpListIn_plain hgd fun K hK' => ?_
  unfold Oper.wpIn
  refine ⟨?_, ?_⟩
  · simp [Oper.about, ho]
  · rw [Oper.semAt_plain F _ _ (by rw [ho]; intro c hc'; cases hc')]
    unfold execOp
    simp only [ho, Sem.run_bind, hl, hrun, Result.andThen_ok]
    exact hK' _ _ (h _ rfl (own_new w xs n hn hm _ (Nat.le_refl _)) ((Below.refl _ _).alloc (Nat.le_refl _) _))
end
/-- What has been gathered. -/
def toPV (p : Pl) : PV := ((p.1.1 : Int), p.1.2)
def gath (c : Nat → Int) (pre : List Pl) : List Int := hdF c (pre.length : Int) ++ flatP (pre.map toPV)
theorem gath_len (c : Nat → Int) (pre : List Pl) : (gath c pre).length = 10 + 2 * pre.length := by simp [gath, hdF, flatP_len]; omega
theorem gath_nine (c : Nat → Int) (pre : List Pl) : (gath c pre)[9]? = some (pre.length : Int) := by simp [gath, hdF]
theorem gath_snoc (c : Nat → Int) (pre : List Pl) (p : Pl) : (gath c pre).set 9 ((pre.length : Int) + 1) ++ [(p.1.1 : Int), p.1.2] = gath c (pre ++ [p]) := by
  unfold gath hdF
  rw [List.map_append, List.map_singleton, flatP_snoc]
  simp [toPV]
theorem prs_pp (h : Nat → Int) (hb) : ∀ k, k ≤ 65 → (prs h hb k).map toPV = pp h k
  | 0, _ => rfl
  | k + 1, hk => by
    have ih := prs_pp h hb k (by omega)
    rw [prs, dif_pos (by omega)]
    simp only [pp]
    by_cases z : h k = 0
    · rw [if_pos z, if_pos z, ih]
    · rw [if_neg z, if_neg z, List.map_append, ih]; rfl
theorem gath_all (c : Nat → Int) (hb) : gath c (prs (fun i => c (9 + i)) hb 65) = numsF c := by
  have h := prs_pp (fun i => c (9 + i)) hb 65 (by omega)
  have hl := congrArg List.length h
  rw [List.length_map] at hl
  unfold gath numsF
  rw [h, hl]
  rfl

end Go.Proofs.Ytlhamckpgijjmaa
namespace Go.Proofs.Ytlhamckpgijjmaa
open Go.RowKit
set_option linter.unusedVariables false

theorem cneq_run (c d : Nat → Int) (w : World) : (binOp .neq 95 (.agg (CA c)) (.agg (CA d))).run Try.prog w = .ok (.bool (!eqC c d)) w := by
  have h := eq_cell c d w
  rw [run_eql_struct] at h
  rw [run_neq_struct]
  generalize (Op.equalIn 10000 95 (.agg (CA c)) (.agg (CA d))).run Try.prog w = R at *
  cases R <;> simp_all [Result.andThen]
theorem cneq_oper {o : Oper} {ρ : Operand → Value} {x y : Operand} {t' : TypeId} {c d : Nat → Int} (ho : o.op = .binOp .neq 95 x y t') (hx : ρ x = .agg (CA c)) (hy : ρ y = .agg (CA d)) (he : eqC c d = true) (w : World) :
    (execOp ρ o).run Try.prog w = .ok (.value (.bool false)) w := by
  unfold execOp
  simp only [ho, hx, hy, Sem.run_bind, eq_guard, cneq_run, he, Result.andThen_ok, Sem.run_pure, Bool.not_true]

/-- Numbers that begin with no cell. -/
def NoT (l : List Int) : Prop := l.length < 10 ∨ (10 ≤ l.length ∧ (l.getD 9 0 < 0 ∨ (((l.length - 10) / 2 : Nat) : Int) < l.getD 9 0)) ∨ (∃ ps more, Parts l ps more ∧ foldH ps = none)
theorem take_cases (l : List Int) : NoT l ∨ ∃ ps more nx h, Parts l ps more ∧ foldH ps = some (nx, h) := by
  by_cases h10 : l.length < 10
  · exact .inl (.inl h10)
  by_cases hb : l.getD 9 0 < 0 ∨ (((l.length - 10) / 2 : Nat) : Int) < l.getD 9 0
  · exact .inl (.inr (.inl ⟨by omega, hb⟩))
  obtain ⟨m, hm⟩ : ∃ m : Nat, l.getD 9 0 = (m : Int) := ⟨(l.getD 9 0).toNat, by omega⟩
  obtain ⟨ps, hl, hf⟩ := flatP_of m ((l.drop 10).take (2 * m)) (by rw [List.length_take, List.length_drop]; omega)
  have hp : Parts l ps ((l.drop 10).drop (2 * m)) := ⟨by omega, by rw [hm, hl], by rw [hf, List.take_append_drop]⟩
  cases e : foldH ps with
  | none => exact .inl (.inr (.inr ⟨ps, _, hp, e⟩))
  | some s => exact .inr ⟨ps, _, s.1, s.2, hp, e⟩
theorem foldH_fit : ∀ (ps : List PV) nx h, foldH ps = some (nx, h) → (∀ p ∈ ps, Fit p.2) → ∀ i, Fit (h i) := by
  refine snoc_ind ?_ ?_
  · intro nx h e _ i
    simp [foldH] at e
    rw [← e.2]; exact ⟨by simp [zc], by simp [zc]⟩
  · intro ps p ih nx' h' e hp i
    rw [foldH_snoc] at e
    cases hs : foldH ps with
    | none => rw [hs] at e; cases e
    | some s =>
      obtain ⟨nx, h⟩ := s
      rw [hs] at e
      obtain ⟨h1, h2, h3, rfl, rfl⟩ := stepH_some e
      have := ih nx h hs (fun q hq => hp q (by simp [hq])) i
      unfold cup; split
      · exact hp p (by simp)
      · exact this
theorem flatP_mem : ∀ (ps : List PV) (p : PV), p ∈ ps → p.2 ∈ flatP ps
  | q :: ps, p, h => by
    rcases List.mem_cons.1 h with rfl | h
    · simp [flatP]
    · have := flatP_mem ps p h
      simp only [flatP, List.flatMap_cons] at this ⊢
      exact List.mem_append_right _ this
theorem cellOf_wf {l : List Int} {ps : List PV} {more : List Int} {nx : Nat} {h : Nat → Int} (hp : Parts l ps more) (e : foldH ps = some (nx, h)) (hf : ∀ x ∈ l, Fit x) : Wf (cellOf l h) := by
  have hget : ∀ i, Fit (l.getD i 0) := fun i => by
    by_cases c : i < l.length
    · rw [List.getD_eq_getElem?_getD, List.getElem?_eq_getElem c]; exact hf _ (List.getElem_mem c)
    · rw [List.getD_eq_getElem?_getD, List.getElem?_eq_none (by omega)]; exact ⟨by simp, by simp⟩
  have hh := foldH_fit ps nx h e (fun p hp' => hf _ (List.mem_of_mem_drop (i := 10) (by rw [hp.rest]; exact List.mem_append_left _ (flatP_mem ps p hp'))))
  refine ⟨?_, fun i hi h2 => ?_⟩
  · unfold cellOf; rw [if_pos (by omega), if_pos rfl]; unfold uw; omega
  · unfold cellOf
    split
    · exact hget i
    · exact hh _
theorem numsF_len (c : Nat → Int) : 10 ≤ (numsF c).length ∧ (numsF c).length ≤ 140 := by
  have := pp_len (hf c) 65
  simp [numsF, hdF, flatP_len]; omega
end Go.Proofs.Ytlhamckpgijjmaa
namespace Go.Proofs.Ytlhamckpgijjmaa
open Go.RowKit
set_option linter.unusedVariables false

/-- A note. -/
structure Nt where
  k : Int
  f : Int
  t : Int
  ns : List Int
  os : List (Nat → Int)
  es : List (Nat → Int)
def opNt (o : Nat → Int) : List Int := [o 0, o 1, o 2, o 3, o 4]
def cE (e : Nat → Int) : Nat → Int := fun i => e (2 + i)
def enN (e : Nat → Int) : List Int := e 0 :: e 1 :: numsF (cE e)
/-- A note's numbers. -/
def tailN (es : List (Nat → Int)) : List Int := (es.length : Int) :: es.flatMap enN
def midN (os : List (Nat → Int)) (es : List (Nat → Int)) : List Int := (os.length : Int) :: (os.flatMap opNt ++ tailN es)
def numsN (N : Nt) : List Int := N.k :: N.f :: N.t :: (N.ns.length : Int) :: (N.ns ++ midN N.os N.es)
/-- A note's bytes. -/
def bysN (N : Nt) : List Nat := frm (numsB (numsN N))

def WO (o : Nat → Int) : Prop := ∀ i, i < 5 → Fit (o i)
def WE (e : Nat → Int) : Prop := Fit (e 0) ∧ Fit (e 1) ∧ Wf (cE e)
structure WN (N : Nt) : Prop where
  k : Fit N.k
  f : Fit N.f
  t : Fit N.t
  ns : In64 N.ns
  os : ∀ o ∈ N.os, WO o
  es : ∀ e ∈ N.es, WE e

/-- The same elements. -/
def EqL (k : Nat) (l m : List (Nat → Int)) : Prop := l.length = m.length ∧ ∀ (j : Nat) (a b : Nat → Int), l[j]? = some a → m[j]? = some b → ∀ i, i < k → a i = b i
theorem EqL.refl (k : Nat) (l : List (Nat → Int)) : EqL k l l := ⟨rfl, fun j a b h1 h2 i _ => by rw [h1] at h2; cases h2; rfl⟩
theorem EqL.symm {k : Nat} {l m : List (Nat → Int)} (h : EqL k l m) : EqL k m l := ⟨h.1.symm, fun j a b h1 h2 i hi => (h.2 j b a h2 h1 i hi).symm⟩
theorem EqL.cons {k : Nat} {a b : Nat → Int} {l m : List (Nat → Int)} (h : ∀ i, i < k → a i = b i) (hl : EqL k l m) : EqL k (a :: l) (b :: m) := by
  refine ⟨by simp [hl.1], fun j x y hx hy i hi => ?_⟩
  cases j with
  | zero => simp at hx hy; subst hx; subst hy; exact h i hi
  | succ j => exact hl.2 j x y (by simpa using hx) (by simpa using hy) i hi
structure SameN (A B : Nt) : Prop where
  k : A.k = B.k
  f : A.f = B.f
  t : A.t = B.t
  ns : A.ns = B.ns
  os : EqL 5 A.os B.os
  es : EqL 76 A.es B.es
theorem SameN.refl (A : Nt) : SameN A A := ⟨rfl, rfl, rfl, rfl, .refl _ _, .refl _ _⟩
theorem SameN.symm {A B : Nt} (h : SameN A B) : SameN B A := ⟨h.k.symm, h.f.symm, h.t.symm, h.ns.symm, h.os.symm, h.es.symm⟩

theorem opN_congr {a b : Nat → Int} (h : ∀ i, i < 5 → a i = b i) : opNt a = opNt b := by
  unfold opNt; rw [h 0 (by omega), h 1 (by omega), h 2 (by omega), h 3 (by omega), h 4 (by omega)]
theorem numsF_congr {a b : Nat → Int} (h : Eqv a b) : numsF a = numsF b := by
  have hp : pp (hf a) 65 = pp (hf b) 65 := pp_congr 65 (fun i hi => h (9 + i) (by omega))
  unfold numsF hdF
  rw [hp, h 0 (by omega), h 1 (by omega), h 2 (by omega), h 3 (by omega), h 4 (by omega), h 5 (by omega), h 6 (by omega), h 7 (by omega), h 8 (by omega)]
theorem enN_congr {a b : Nat → Int} (h : ∀ i, i < 76 → a i = b i) : enN a = enN b := by
  unfold enN
  rw [h 0 (by omega), h 1 (by omega), numsF_congr (a := cE a) (b := cE b) (fun i hi => h (2 + i) (by omega))]
theorem flatMap_eql {k : Nat} {F : (Nat → Int) → List Int} (hF : ∀ a b : Nat → Int, (∀ i, i < k → a i = b i) → F a = F b) : ∀ {l m : List (Nat → Int)}, EqL k l m → l.flatMap F = m.flatMap F
  | [], [], _ => rfl
  | [], _ :: _, h => by have := h.1; simp at this
  | _ :: _, [], h => by have := h.1; simp at this
  | a :: l, b :: m, h => by
    have h1 : EqL k l m := ⟨by simpa using h.1, fun j x y hx hy => h.2 (j + 1) x y (by simpa using hx) (by simpa using hy)⟩
    rw [List.flatMap_cons, List.flatMap_cons, flatMap_eql hF h1, hF a b (h.2 0 a b rfl rfl)]
theorem numsN_same {A B : Nt} (h : SameN A B) : numsN A = numsN B := by
  unfold numsN midN tailN
  rw [h.k, h.f, h.t, h.ns, h.os.1, h.es.1, flatMap_eql (fun _ _ => opN_congr) h.os, flatMap_eql (fun _ _ => enN_congr) h.es]
theorem bysN_same {A B : Nt} (h : SameN A B) : bysN A = bysN B := by unfold bysN; rw [numsN_same h]

/-! One form for each. -/
theorem numsF_pre {c d : Nat → Int} {X Y : List Int} (h : numsF c ++ X = numsF d ++ Y) : numsF c = numsF d ∧ X = Y := by
  have h9 : (pp (hf c) 65).length = (pp (hf d) 65).length := by
    have := congrArg (fun l : List Int => l.getD 9 0) h
    simp [numsF, hdF] at this
    omega
  exact List.append_inj h (by simp [numsF, hdF, flatP_len, h9])
theorem enN_pre {c d : Nat → Int} {X Y : List Int} (h : enN c ++ X = enN d ++ Y) : enN c = enN d ∧ X = Y := by
  unfold enN at h ⊢
  simp only [List.cons_append, List.cons.injEq] at h
  obtain ⟨h1, h2, h3⟩ := h
  obtain ⟨h4, h5⟩ := numsF_pre h3
  exact ⟨by rw [h1, h2, h4], h5⟩
theorem enN_inj {c d : Nat → Int} (hc : Wf (cE c)) (hd : Wf (cE d)) (h : enN c = enN d) : ∀ i, i < 76 → c i = d i := by
  unfold enN at h
  simp only [List.cons.injEq] at h
  obtain ⟨h1, h2, h3⟩ := h
  obtain ⟨p1, n1, g1, e1, q1⟩ := take_nums (cE c) hc []
  obtain ⟨p2, n2, g2, e2, q2⟩ := take_nums (cE d) hd []
  rw [List.append_nil] at p1 p2 q1 q2
  have hpp : pp (hf (cE c)) 65 = pp (hf (cE d)) 65 := by
    have a := p1.rest
    have b := p2.rest
    rw [h3] at a
    rw [a] at b
    simp only [List.append_nil] at b
    exact flatP_inj _ _ b
  rw [hpp, e2] at e1
  cases e1
  rw [h3] at q1
  intro i hi
  match i, hi with
  | 0, _ => exact h1
  | 1, _ => exact h2
  | j + 2, hi =>
    have := (q1 j (by omega)).symm.trans (q2 j (by omega))
    unfold cE at this
    rwa [Nat.add_comm 2 j] at this
theorem opN_pre {c d : Nat → Int} {X Y : List Int} (h : opNt c ++ X = opNt d ++ Y) : (∀ i, i < 5 → c i = d i) ∧ X = Y := by
  unfold opNt at h
  simp only [List.cons_append, List.nil_append, List.cons.injEq] at h
  obtain ⟨h0, h1, h2, h3, h4, h5⟩ := h
  refine ⟨fun i hi => ?_, h5⟩
  match i, hi with
  | 0, _ => exact h0
  | 1, _ => exact h1
  | 2, _ => exact h2
  | 3, _ => exact h3
  | 4, _ => exact h4
theorem ops_pre : ∀ {l m : List (Nat → Int)} {X Y : List Int}, l.length = m.length → l.flatMap opNt ++ X = m.flatMap opNt ++ Y → EqL 5 l m ∧ X = Y
  | [], [], X, Y, _, h => ⟨.refl _ _, by simpa using h⟩
  | [], _ :: _, _, _, h, _ => by simp at h
  | _ :: _, [], _, _, h, _ => by simp at h
  | a :: l, b :: m, X, Y, h, e => by
    rw [List.flatMap_cons, List.flatMap_cons, List.append_assoc, List.append_assoc] at e
    obtain ⟨h1, h2⟩ := opN_pre e
    obtain ⟨h3, h4⟩ := ops_pre (by simpa using h) h2
    exact ⟨h3.cons h1, h4⟩
theorem ents_pre : ∀ {l m : List (Nat → Int)} {X Y : List Int}, l.length = m.length → (∀ e ∈ l, WE e) → (∀ e ∈ m, WE e) → l.flatMap enN ++ X = m.flatMap enN ++ Y → EqL 76 l m ∧ X = Y
  | [], [], X, Y, _, _, _, h => ⟨.refl _ _, by simpa using h⟩
  | [], _ :: _, _, _, h, _, _, _ => by simp at h
  | _ :: _, [], _, _, h, _, _, _ => by simp at h
  | a :: l, b :: m, X, Y, h, wl, wm, e => by
    rw [List.flatMap_cons, List.flatMap_cons, List.append_assoc, List.append_assoc] at e
    obtain ⟨h1, h2⟩ := enN_pre e
    obtain ⟨h3, h4⟩ := ents_pre (by simpa using h) (fun x hx => wl x (by simp [hx])) (fun x hx => wm x (by simp [hx])) h2
    exact ⟨h3.cons (enN_inj (wl a (by simp)).2.2 (wm b (by simp)).2.2 h1), h4⟩
theorem numsN_inj {A B : Nt} (hA : WN A) (hB : WN B) (h : numsN A = numsN B) : SameN A B := by
  unfold numsN at h
  simp only [List.cons.injEq] at h
  obtain ⟨h1, h2, h3, h4, h5⟩ := h
  obtain ⟨h6, h7⟩ := List.append_inj h5 (by omega)
  unfold midN at h7
  simp only [List.cons.injEq] at h7
  obtain ⟨h8, h9⟩ := h7
  obtain ⟨h10, h11⟩ := ops_pre (by omega) h9
  unfold tailN at h11
  simp only [List.cons.injEq] at h11
  obtain ⟨h12, h13⟩ := h11
  obtain ⟨h14, _⟩ := ents_pre (X := []) (Y := []) (by omega) hA.es hB.es (by simpa using h13)
  exact ⟨h1, h2, h3, h6, h10, h14⟩

/-- What nus reads is, written again, the same. -/
theorem nus_back (l : List Nat) (hb : Byt l) : ∀ r, nus l = some r → numsB r = l ∧ In64 r ∧ r.length ≤ l.length := by
  induction hn : l.length using Nat.strongRecOn generalizing l with
  | _ n ih =>
    intro r hr
    by_cases h0 : l = []
    · subst h0
      rw [nus_nil] at hr
      cases hr
      exact ⟨rfl, fun x hx => (by cases hx), by simp⟩
    · cases hok : nOK l with
      | false => rw [nus_no h0 hok] at hr; cases hr
      | true =>
        rw [nus_go hok] at hr
        obtain ⟨r', h1, rfl⟩ := Option.map_eq_some_iff.1 hr
        have hs := nS_le hok
        have hld : (l.drop (nS l)).length = l.length - nS l := by rw [List.length_drop]
        obtain ⟨h2, h3, h4⟩ := ih (l.drop (nS l)).length (by omega) (l.drop (nS l)) (hb.drop _) rfl r' h1
        refine ⟨?_, fun x hx => ?_, by rw [List.length_cons]; omega⟩
        · show numB (nV l) ++ numsB r' = l
          rw [h2, num_back hb hok, List.take_append_drop]
        · rcases List.mem_cons.1 hx with rfl | hx
          · exact unz_in _ (nVal_lt hb ((nOK_iff l).1 hok).2.1)
          · exact h3 x hx
theorem numsB_inj {a b : List Int} (ha : In64 a) (hb : In64 b) (h : numsB a = numsB b) : a = b := by
  have := nus_put a ha
  rw [h, nus_put b hb] at this
  exact (Option.some.inj this).symm

theorem numsF_fit {c : Nat → Int} (hc : Wf c) : In64 (numsF c) := by
  have hpp : ∀ k, k ≤ 65 → ∀ p ∈ pp (hf c) k, Fit p.1 ∧ Fit p.2 := by
    intro k
    induction k with
    | zero => intro _ p hp; simp [pp] at hp
    | succ k ih =>
      intro hk p hp
      unfold pp at hp
      split at hp
      · exact ih (by omega) p hp
      · rcases List.mem_append.1 hp with h | h
        · exact ih (by omega) p h
        · simp at h
          subst h
          exact ⟨⟨by show (-9223372036854775808 : Int) ≤ (k : Int); omega, by show (k : Int) ≤ 9223372036854775807; omega⟩, hc.2 (9 + k) (by omega) (by omega)⟩
  intro x hx
  unfold numsF at hx
  rcases List.mem_append.1 hx with h | h
  · unfold hdF at h
    have hl := pp_len (hf c) 65
    simp only [List.mem_cons, List.not_mem_nil, or_false] at h
    rcases h with rfl | rfl | rfl | rfl | rfl | rfl | rfl | rfl | rfl | rfl
    · exact hc.2 0 (by omega) (by omega)
    · exact hc.2 1 (by omega) (by omega)
    · unfold wrap64; omega
    · exact hc.2 3 (by omega) (by omega)
    · exact hc.2 4 (by omega) (by omega)
    · exact hc.2 5 (by omega) (by omega)
    · exact hc.2 6 (by omega) (by omega)
    · exact hc.2 7 (by omega) (by omega)
    · exact hc.2 8 (by omega) (by omega)
    · omega
  · unfold flatP at h
    obtain ⟨p, hp, h⟩ := List.mem_flatMap.1 h
    have := hpp 65 (by omega) p hp
    simp at h
    rcases h with rfl | rfl
    · exact this.1
    · exact this.2
theorem numsN_fit {N : Nt} (h : WN N) (h1 : N.ns.length ≤ 1000000) (h2 : N.os.length ≤ 1000000) (h3 : N.es.length ≤ 1000000) : In64 (numsN N) := by
  intro x hx
  unfold numsN midN tailN at hx
  simp only [List.mem_cons, List.mem_append] at hx
  rcases hx with rfl | rfl | rfl | rfl | hx | rfl | hx | rfl | hx
  · exact h.k
  · exact h.f
  · exact h.t
  · omega
  · exact h.ns x hx
  · omega
  · obtain ⟨o, ho, hx⟩ := List.mem_flatMap.1 hx
    have := h.os o ho
    unfold opNt at hx
    simp at hx
    rcases hx with rfl | rfl | rfl | rfl | rfl
    · exact this 0 (by omega)
    · exact this 1 (by omega)
    · exact this 2 (by omega)
    · exact this 3 (by omega)
    · exact this 4 (by omega)
  · omega
  · obtain ⟨e, he, hx⟩ := List.mem_flatMap.1 hx
    obtain ⟨w0, w1, w2⟩ := h.es e he
    unfold enN at hx
    rcases List.mem_cons.1 hx with rfl | hx
    · exact w0
    · rcases List.mem_cons.1 hx with rfl | hx
      · exact w1
      · exact numsF_fit w2 x hx

/-! Which notes are in form. -/
def FitK (k : Int) (n o e : Nat) : Prop :=
  ((k = 1 ∨ k = 4 ∨ k = 9) ∧ n = 4 ∧ o = 0 ∧ e = 0) ∨ (k = 2 ∧ 7 ≤ n ∧ n ≤ 39 ∧ o = 0 ∧ e = 0) ∨ (k = 3 ∧ 4 ≤ n ∧ n ≤ 36 ∧ o = 0 ∧ e = 0) ∨ (k = 5 ∧ n = 7 ∧ o = 0 ∧ e = 0) ∨
  (k = 6 ∧ 1 ≤ n ∧ n ≤ 25 ∧ n % 2 = 1 ∧ o = 0 ∧ e = 0) ∨ (k = 7 ∧ 2 ≤ n ∧ n ≤ 26 ∧ n % 2 = 0 ∧ o ≤ 16 ∧ e = 0) ∨ (k = 8 ∧ n = 6 ∧ o = 0 ∧ e ≤ 16)
structure GoodN (N : Nt) : Prop where
  f : 0 ≤ N.f ∧ N.f ≤ 999
  t : 0 ≤ N.t ∧ N.t ≤ 999
  fit : FitK N.k N.ns.length N.os.length N.es.length
  os : ∀ o ∈ N.os, o 1 = 1 ∨ o 1 = 2
theorem fitK_le {k : Int} {n o e : Nat} (h : FitK k n o e) : 1 ≤ k ∧ k ≤ 9 ∧ n ≤ 39 ∧ o ≤ 16 ∧ e ≤ 16 ∧ (0 < o → n ≤ 26 ∧ e = 0) ∧ (0 < e → n = 6 ∧ o = 0) := by
  unfold FitK at h; omega
theorem GoodN.same {A B : Nt} (h : SameN A B) (g : GoodN A) : GoodN B := by
  refine ⟨by rw [← h.f]; exact g.f, by rw [← h.t]; exact g.t, by rw [← h.k, ← h.ns, ← h.os.1, ← h.es.1]; exact g.fit, fun o ho => ?_⟩
  obtain ⟨j, hj⟩ := List.getElem?_of_mem ho
  have hlt := (List.getElem?_eq_some_iff.1 hj).1
  have hA : A.os[j]? = some (A.os[j]'(by rw [h.os.1]; exact hlt)) := List.getElem?_eq_getElem _
  have := h.os.2 j _ o hA hj 1 (by omega)
  rw [← this]
  exact g.os _ (List.mem_of_getElem? hA)

/-! How long a note's bytes are. -/
theorem leB_small (u : Nat) (h : u < 256) : (leB 8 u).length ≤ 1 := by
  have h1 := leB_le 8 u
  by_cases h0 : u = 0
  · subst h0; decide
  · unfold leB
    rw [if_neg h0]
    have : u / 256 = 0 := by omega
    rw [this]
    simp [leB]
theorem numB_small (n : Int) (h0 : 0 ≤ n) (h1 : n < 128) : (numB n).length ≤ 2 := by
  have : zig n < 256 := by unfold zig; rw [if_neg (by omega)]; omega
  have := leB_small (zig n) this
  simp [numB]; omega
theorem numsB_append (a b : List Int) : numsB (a ++ b) = numsB a ++ numsB b := by simp [numsB]
theorem numsB_cons (a : Int) (b : List Int) : numsB (a :: b) = numB a ++ numsB b := by simp [numsB]
theorem pp_bytes (h : Nat → Int) : ∀ k, k ≤ 65 → (numsB (flatP (pp h k))).length ≤ 11 * k
  | 0, _ => by simp [pp, flatP, numsB]
  | k + 1, hk => by
    have ih := pp_bytes h k (by omega)
    unfold pp
    split
    · omega
    · rw [flatP_snoc, numsB_append, numsB_cons, numsB_cons]
      have a := numB_small (k : Int) (by omega) (by omega)
      have b := (numB_len (h k)).1
      simp only [List.length_append]
      have : (numsB []).length = 0 := rfl
      omega
theorem numsF_bytes (c : Nat → Int) : (numsB (numsF c)).length ≤ 805 := by
  unfold numsF
  rw [numsB_append, List.length_append]
  have h1 := pp_bytes (hf c) 65 (by omega)
  have h2 := numsB_len (hdF c ((pp (hf c) 65).length : Int))
  have h3 : (hdF c ((pp (hf c) 65).length : Int)).length = 10 := rfl
  omega
theorem enN_bytes (e : Nat → Int) : (numsB (enN e)).length ≤ 823 := by
  unfold enN
  rw [numsB_cons, numsB_cons, List.length_append, List.length_append]
  have := numsF_bytes (cE e)
  have := (numB_len (e 0)).1
  have := (numB_len (e 1)).1
  omega
theorem ents_bytes : ∀ es : List (Nat → Int), (numsB (es.flatMap enN)).length ≤ 823 * es.length
  | [] => by simp [numsB]
  | e :: es => by
    have := ents_bytes es
    have := enN_bytes e
    rw [List.flatMap_cons, numsB_append, List.length_append, List.length_cons]
    omega
theorem ops_bytes : ∀ os : List (Nat → Int), (os.flatMap opNt).length = 5 * os.length
  | [] => rfl
  | o :: os => by
    have := ops_bytes os
    rw [List.flatMap_cons, List.length_append, List.length_cons, this]
    simp [opNt]; omega
/-- Every note in form has bytes. -/
theorem good_fits {N : Nt} (g : GoodN N) : (numsB (numsN N)).length ≤ 16376 := by
  have h := fitK_le g.fit
  unfold numsN midN tailN
  simp only [numsB_cons, numsB_append, List.length_append]
  have h1 := (numB_len N.k).1
  have h2 := (numB_len N.f).1
  have h3 := (numB_len N.t).1
  have h4 := (numB_len (N.ns.length : Int)).1
  have h5 := (numB_len (N.os.length : Int)).1
  have h6 := (numB_len (N.es.length : Int)).1
  have h7 := numsB_len N.ns
  have h8 := numsB_len (N.os.flatMap opNt)
  rw [ops_bytes] at h8
  have h9 := ents_bytes N.es
  omega
theorem ents_count : ∀ es : List (Nat → Int), (es.flatMap enN).length ≤ 142 * es.length ∧ 12 * es.length ≤ (es.flatMap enN).length
  | [] => by simp
  | e :: es => by
    have := ents_count es
    have := numsF_len (cE e)
    rw [List.flatMap_cons, List.length_append, List.length_cons]
    have : (enN e).length = 2 + (numsF (cE e)).length := by simp [enN]; omega
    omega
theorem numsN_len (N : Nt) : (numsN N).length = 6 + N.ns.length + 5 * N.os.length + (N.es.flatMap enN).length := by
  unfold numsN midN tailN
  simp only [List.length_cons, List.length_append, ops_bytes]
  omega
theorem good_count {N : Nt} (g : GoodN N) : (numsN N).length ≤ 4000 := by
  have h := fitK_le g.fit
  have := ents_count N.es
  rw [numsN_len]
  omega
theorem frm_inj {a b : List Nat} (ha : a.length ≤ 16376) (hb : b.length ≤ 16376) (h : frm a = frm b) : a = b := by
  have h1 := (ins_frm a [] ha).2
  have h2 := (ins_frm b [] hb).2
  rw [List.append_nil] at h1 h2
  rw [← h1, ← h2, h]
theorem bysN_inj {A B : Nt} (hA : WN A) (hB : WN B) (gA : GoodN A) (gB : GoodN B) (h : bysN A = bysN B) : SameN A B := by
  have a := fitK_le gA.fit
  have b := fitK_le gB.fit
  refine numsN_inj hA hB (numsB_inj (numsN_fit hA (by omega) (by omega) (by omega)) (numsN_fit hB (by omega) (by omega) (by omega)) ?_)
  exact frm_inj (good_fits gA) (good_fits gB) h
end Go.Proofs.Ytlhamckpgijjmaa
