/-
  A net's rounds and changes as a law reads them; the last round that is done with a lesser ballot, step by step.
  Rows of acts, and of slices of numbers, that a law makes: built, appended.
-/
import Derived.Test.YtodmhohccclhmaaPk34
import Derived.Test.YtodmhohccclhmaaPk31
import Derived.Test.YtodmhohccclhmaaPk33
namespace Go.Proofs.Ytodmhohccclhmaa
open Go.RowKit
set_option linter.unusedVariables false
set_option maxRecDepth 100000

theorem RdE.keep {W W' : World} {b : Nat} {R : Rd} (h : RdE W b R) (hb : Below W.heap.size W W') : RdE W' b R := by
  obtain ⟨vv, h10, h11⟩ := h.c10
  exact ⟨fun V k => h.c1 V (ab_trans hb k), fun V k => h.c2 V (ab_trans hb k), fun V k => h.c3 V (ab_trans hb k), fun V k => h.c7 V (ab_trans hb k), vv, fun V k => h10 V (ab_trans hb k), fun V k => h11 V (ab_trans hb k)⟩
theorem Nw.rdx {W0 W : World} {B wb : Nat} {P : NwP} {S : Net} (h : Nw W0 W B wb P S) {i : Nat} {R : Rd} (hi : S.rd[i]? = some R) :
    ∃ gd cd b, P.rv = .slice (some ⟨gd, 0, none⟩) S.rd.length cd ∧ S.rd.length ≤ cd ∧ cd ≤ 9223372036854775807 ∧ (∀ V, Below W.heap.size W V → V.cell? ⟨gd, i, none⟩ = some (rptr b)) ∧ RdE W b R := by
  obtain ⟨gd, cd, t, e, h1, h2, -, h3, h4⟩ := h.round hi
  exact ⟨gd, cd, t.1, e, h1, h2, h3, h4.rde⟩
/-- Of a row of rounds the block is one. -/
theorem rdx_same {gd gd' n cd cd' : Nat} {v : Value} (h : v = .slice (some ⟨gd, 0, none⟩) n cd) (h' : v = .slice (some ⟨gd', 0, none⟩) n cd') : gd' = gd ∧ cd' = cd := by
  rw [h] at h'
  injection h' with a b c
  injection a with a
  injection a with a
  exact ⟨a.symm, c.symm⟩
theorem Nw.chx {W0 W : World} {B wb : Nat} {P : NwP} {S : Net} (h : Nw W0 W B wb P S) {i : Nat} {R : Rd} (hi : S.rd[i]? = some R) :
    ∃ gc cc vo vn, P.cv = .slice (some ⟨gc, 0, none⟩) S.rd.length cc ∧ S.rd.length ≤ cc ∧ cc ≤ 9223372036854775807 ∧ ∀ V, Below W.heap.size W V → V.cell? ⟨gc, i * 3, none⟩ = some (.int .i64 R.c.k) ∧ V.cell? ⟨gc, i * 3 + 1, none⟩ = some vo ∧ V.cell? ⟨gc, i * 3 + 2, none⟩ = some vn ∧ Is V vo R.c.o ∧ Is V vn R.c.n := by
  have hil : i < S.rd.length := (List.getElem?_eq_some_iff.1 hi).1
  obtain ⟨c, hc⟩ : ∃ t, P.cds[i]? = some t := ⟨P.cds[i]'(by rw [h.size.2.1]; exact hil), List.getElem?_eq_getElem _⟩
  have he : cgOf c = R.c := by
    have h1 : (P.cds.map cgOf)[i]? = some (cgOf c) := by rw [List.getElem?_map, hc]; rfl
    rw [h.chr, List.getElem?_map, hi] at h1
    injection h1 with h1
    exact h1.symm
  have hne : P.cv ≠ .slice none 0 0 := fun e => by
    rcases h.chs.2 with ⟨-, e2⟩ | ⟨g, cap, cur, e2, _⟩
    · omega
    · rw [e] at e2; cases e2
  obtain ⟨gd, cd, e, h1, h2, h3, h4, h5⟩ := own_cells h.chs hne
  have hi2 := h.chi c (List.mem_of_getElem? hc)
  have hk := h.keep (W' := W) (Below.refl _ _)
  refine ⟨gd, cd, c.vo, c.vn, e, h3, by unfold maxLen at h4; omega, fun V hb => ⟨?_, ?_, ?_, ?_, ?_⟩⟩
  · rw [← he]; exact keep_cell hb (h5 (i * 3) _ (by have := fl_at encG_len hc (i := 0) (by omega); rw [Nat.add_zero] at this; rw [this]; rfl)) h2
  · exact keep_cell hb (h5 (i * 3 + 1) _ (by rw [fl_at encG_len hc (by omega)]; rfl)) h2
  · exact keep_cell hb (h5 (i * 3 + 2) _ (by rw [fl_at encG_len hc (by omega)]; rfl)) h2
  · rw [← he]; exact (hi2.1.is h.old).keep hb
  · rw [← he]; exact (hi2.2.is h.old).keep hb
/-- Low is the last round that is done with a lesser ballot, of those ahead of k. -/
def LowI (S : Net) (R : Rd) (k : Nat) (low : Int) : Prop := (low = -1 ∧ ∀ d D, d < k → S.rd[d]? = some D → D.st = 3 → lt3 D.b R.b = false) ∨
  ∃ (d : Nat) (D : Rd), low = (d : Int) ∧ S.rd[d]? = some D ∧ D.st = 3 ∧ lt3 D.b R.b = true ∧ ∀ d' D', d' < k → S.rd[d']? = some D' → D'.st = 3 → lt3 D'.b R.b = true → lt3 D.b D'.b = false
theorem low_0 (S : Net) (R : Rd) : LowI S R 0 (-1) := .inl ⟨rfl, fun d D hd => (by omega)⟩
theorem low_no {S : Net} {R Q : Rd} {k : Nat} {low : Int} (h : LowI S R k low) (hQ : S.rd[k]? = some Q) (hn : Q.st = 3 → lt3 Q.b R.b = true → low ≠ -1 ∧ ∀ (d : Nat) (D : Rd), low = (d : Int) → S.rd[d]? = some D → lt3 D.b Q.b = false) : LowI S R (k + 1) low := by
  rcases h with ⟨e, h⟩ | ⟨d, D, e, hD, h3, hl, h⟩
  · refine .inl ⟨e, fun d D hd hD h3 => ?_⟩
    by_cases hk : d = k
    · subst hk
      rw [hQ] at hD
      cases hD
      cases hb : lt3 Q.b R.b
      · rfl
      · exact absurd e (hn h3 hb).1
    · exact h d D (by omega) hD h3
  · refine .inr ⟨d, D, e, hD, h3, hl, fun d' D' hd hD' h3' hl' => ?_⟩
    by_cases hk : d' = k
    · subst hk
      rw [hQ] at hD'
      cases hD'
      exact (hn h3' hl').2 d D e hD
    · exact h d' D' (by omega) hD' h3' hl'
theorem low_yes {S : Net} {R Q : Rd} {k : Nat} {low : Int} (h : LowI S R k low) (hQ : S.rd[k]? = some Q) (h3 : Q.st = 3) (hl : lt3 Q.b R.b = true) (hn : ∀ (d : Nat) (D : Rd), low = (d : Int) → S.rd[d]? = some D → lt3 D.b Q.b = true) : LowI S R (k + 1) (k : Int) := by
  refine .inr ⟨k, Q, rfl, hQ, h3, hl, fun d' D' hd hD' h3' hl' => ?_⟩
  by_cases hk : d' = k
  · subst hk
    rw [hQ] at hD'
    cases hD'
    exact leK_refl _
  · rcases h with ⟨e, h⟩ | ⟨d, D, e, hD, h3, hl, h⟩
    · rw [h d' D' (by omega) hD' h3'] at hl'
      cases hl'
    · have h1 : lt3 D.b D'.b = false := h d' D' (by omega) hD' h3' hl'
      have h2 := hn d D e hD
      cases hx : lt3 Q.b D'.b
      · rfl
      · have := lt3_trans h2 hx
        rw [h1] at this
        cases this
/-- What is found of a chain. -/
def LowC (S : Net) (low : Int) (Q : Rd) : Prop := low = -1 ∨ ∃ (d : Nat) (D : Rd), low = (d : Int) ∧ S.rd[d]? = some D ∧ lt3 Q.b D.b = false
def FndI (S : Net) (R : Rd) (low : Int) (k : Nat) (f : Bool) : Prop := (low = -1 → aft [] R.c R.v = true → f = true) ∧ ∀ (j : Nat) (Q : Rd), j < k → S.rd[j]? = some Q → lt3 Q.b R.b = true → LowC S low Q → Q.st ≠ 1 → aft Q.v R.c R.v = true → f = true
theorem fnd_ok {acc : Nat → Nat → Prop} {S : Net} (h : Inv acc S) {i : Nat} {R : Rd} {low : Int} {f : Bool} (hi : S.rd[i]? = some R) (hs : R.st ≠ 1) (h4 : R.st = 4 → R.v ≠ []) (hl : LowI S R S.rd.length low) (hf : FndI S R low S.rd.length f) : f = true := by
  have lt : ∀ {d : Nat} {D : Rd}, S.rd[d]? = some D → d < S.rd.length := fun h => (List.getElem?_eq_some_iff.1 h).1
  rcases chain_ok h hi hs h4 with ⟨a, hd⟩ | ⟨j, Q, hj, h1, ha, hb, hd⟩
  · rcases hl with ⟨e, -⟩ | ⟨d, D, e, hD, h3, hl, -⟩
    · exact hf.1 e a
    · rw [hd d D hD h3] at hl
      cases hl
  · refine hf.2 j Q (lt hj) hj hb ?_ h1 ha
    rcases hl with ⟨e, -⟩ | ⟨d, D, e, hD, h3, hl, -⟩
    · exact .inl e
    · exact .inr ⟨d, D, e, hD, hd d D hD h3 hl⟩
theorem rdok_c {R : Rd} (h : RdOK R) : R.c.o.length ≤ 1000 ∧ R.c.n.length ≤ 1000 := by
  have := h.gd
  unfold gdG gdC at this
  simp only [Bool.or_eq_true, Bool.and_eq_true, decide_eq_true_eq] at this
  omega
theorem fnd_0 {S : Net} {R : Rd} {low : Int} {f : Bool} (h : (decide (low < 0) && aft [] R.c R.v) = f) : FndI S R low 0 f :=
  ⟨fun hl ha => by rw [← h, hl, ha]; rfl, fun j Q hj => (by omega)⟩
theorem fnd_no {S : Net} {R Q : Rd} {low : Int} {k : Nat} {f : Bool} (h : FndI S R low k f) (hQ : S.rd[k]? = some Q) (hn : lt3 Q.b R.b = true → LowC S low Q → Q.st = 1) : FndI S R low (k + 1) f := by
  refine ⟨h.1, fun j Q' hj hQ' h1 h2 h3 h4 => ?_⟩
  by_cases hk : j = k
  · subst hk
    rw [hQ] at hQ'
    cases hQ'
    exact absurd (hn h1 h2) h3
  · exact h.2 j Q' (by omega) hQ' h1 h2 h3 h4
theorem fnd_yes {S : Net} {R Q : Rd} {low : Int} {k : Nat} {f : Bool} (h : FndI S R low k f) (hQ : S.rd[k]? = some Q) : FndI S R low (k + 1) (f || aft Q.v R.c R.v) := by
  refine ⟨fun a b => by rw [h.1 a b]; rfl, fun j Q' hj hQ' h1 h2 h3 h4 => ?_⟩
  by_cases hk : j = k
  · subst hk
    rw [hQ] at hQ'
    cases hQ'
    rw [h4, Bool.or_true]
  · rw [h.2 j Q' (by omega) hQ' h1 h2 h3 h4]
    rfl
theorem rbless_v {a b : Bt} {v : Bool} {w : World} (h : lt3 a b = v) : Calls Try.prog 14 #[bV a, bV b] w fun e w' => e = .returned (.bool v) ∧ Below w.heap.size w w' := by
  rw [← h]
  exact rbless_any a b w
end Go.Proofs.Ytodmhohccclhmaa
namespace Go.Proofs.Ytodmhohccclhmaa
open Go.RowKit
set_option linter.unusedVariables false
set_option maxRecDepth 100000

def encA (x : AcD) : List Value := [.int .i64 x.kd, .int .i64 x.wh, .int .i64 x.nm, .int .i64 x.k, x.vo, x.vn]
theorem encA_len (x : AcD) : (encA x).length = 6 := rfl
theorem infoAc : (Try.prog.info? 52).map (fun i => (i.zero, i.size, i.bytes)) = some (some (.agg #[.int .i64 0, .int .i64 0, .int .i64 0, .int .i64 0, .slice none 0 0, .slice none 0 0]), 6, 80) := by kernel_rfl
theorem bsac0 (w : World) : (Instr.buildSlice 32 0 #[]).run Try.prog w = .ok (.slice (some ⟨w.heap.size, 0, none⟩) 0 0) (w.alloc (.cells #[] 52)) := by kernel_rfl
theorem bsac1 (kd wh nm k : Int) (q q' : Option Addr) (n n' c c' : Nat) (w : World) : (Instr.buildSlice 32 1 #[(0, .agg (acC kd wh nm k (.slice q n c) (.slice q' n' c')))]).run Try.prog w = .ok (.slice (some ⟨w.heap.size, 0, none⟩) 1 1) (w.alloc (.cells (acC kd wh nm k (.slice q n c) (.slice q' n' c')) 52)) := by kernel_rfl
theorem infoNs : (Try.prog.info? 24).map (fun i => (i.zero, i.size, i.bytes)) = some (some (.slice none 0 0), 1, 24) := by kernel_rfl
theorem bsns0 (w : World) : (Instr.buildSlice 53 0 #[]).run Try.prog w = .ok (.slice (some ⟨w.heap.size, 0, none⟩) 0 0) (w.alloc (.cells #[] 24)) := by kernel_rfl
theorem bsns1 (q : Option Addr) (n c : Nat) (w : World) : (Instr.buildSlice 53 1 #[(0, .slice q n c)]).run Try.prog w = .ok (.slice (some ⟨w.heap.size, 0, none⟩) 1 1) (w.alloc (.cells #[.slice q n c] 24)) := by kernel_rfl
section
variable {ops : Array Oper} {rest : List Oper} {o : Oper} {a : Act} {w : World} {Q : Exit → Act → World → Prop}
theorem bs_ac0 (A : World) (hw : Region.wanted o (yielded ops a.tmps) = true) {parts : Array (Nat × Operand)} (ho : o.op = .buildSlice 32 0 parts) (hl : parts.map (fun (i, x) => (i, a.eval x)) = #[]) (hA : A.heap.size ≤ w.heap.size)
    (h : ∀ W', W'.ownsRow A.heap.size 52 6 (.slice (some ⟨w.heap.size, 0, none⟩) 0 0) 0 [] → Below w.heap.size w W' → wpList Try.prog ops Q rest (a.put o.dst (.slice (some ⟨w.heap.size, 0, none⟩) 0 0)) W') : wpList Try.prog ops Q (o :: rest) a w := by
  unfold wpList
  rw [if_pos hw]
  left
  unfold Oper.wp execOp
  simp only [ho, Sem.run_bind, hl, bsac0, Result.andThen_ok]
  exact h _ (own_empty w A 52 6 hA) ((Below.refl _ _).alloc (Nat.le_refl _) _)
theorem bs_ac1 (hw : Region.wanted o (yielded ops a.tmps) = true) {parts : Array (Nat × Operand)} (ho : o.op = .buildSlice 32 1 parts) (kd wh nm k : Int) (q q' : Option Addr) (n n' c c' : Nat) (hl : parts.map (fun (i, x) => (i, a.eval x)) = #[(0, .agg (acC kd wh nm k (.slice q n c) (.slice q' n' c')))])
    (h : ∀ W', Blk W' w.heap.size (acC kd wh nm k (.slice q n c) (.slice q' n' c')) 52 → Below w.heap.size w W' → wpList Try.prog ops Q rest (a.put o.dst (.slice (some ⟨w.heap.size, 0, none⟩) 1 1)) W') : wpList Try.prog ops Q (o :: rest) a w := by
  unfold wpList
  rw [if_pos hw]
  left
  unfold Oper.wp execOp
  simp only [ho, Sem.run_bind, hl, bsac1, Result.andThen_ok]
  exact h _ (Blk.new _ _ _) ((Below.refl _ _).alloc (Nat.le_refl _) _)
theorem app_ac (hw : Region.wanted o (yielded ops a.tmps) = true) {s x : Operand} (ho : o.op = .call { callee := .builtin .append, args := #[s, x], argTypes := #[32, 32] })
    {v : Value} {N B g : Nat} {os : List AcD} (l : AcD) (hs : a.eval s = v) (hown : w.ownsRow B 52 6 v N (os.flatMap encA)) (hx : a.eval x = .slice (some ⟨g, 0, none⟩) 1 1) (hBl : Blk w g (acC l.kd l.wh l.nm l.k l.vo l.vn) 52) (h1 : ∃ q n c, l.vo = .slice q n c) (h2 : ∃ q n c, l.vn = .slice q n c) (hk : N ≤ 4000) (hB : B ≤ w.heap.size)
    (h : ∀ v' w', w'.ownsRow B 52 6 v' (N + 1) ((os ++ [l]).flatMap encA) → w.grownBy w' v.ownBlock → (v'.ownBlock = v.ownBlock ∨ v'.ownBlock = some w.heap.size) → wpList Try.prog ops Q rest (a.put o.dst v') w') : wpList Try.prog ops Q (o :: rest) a w := by
  obtain ⟨i, hi, hz0, hz1, hz2⟩ := info_parts infoAc
  obtain ⟨q1, n1, c1, e1⟩ := h1
  obtain ⟨q2, n2, c2, e2⟩ := h2
  have hone : ∀ u ∈ [l].flatMap encA, u.oneCell' = true := by
    intro u hu
    rw [List.flatMap_cons, List.flatMap_nil, List.append_nil] at hu
    unfold encA at hu
    rw [e1, e2] at hu
    simp only [List.mem_cons, List.not_mem_nil, or_false] at hu
    rcases hu with h | h | h | h | h | h <;> subst h <;> rfl
  obtain ⟨v', w', hr, g2, g3, g4, g5⟩ := run_append_own_at (P := Try.prog) w B 32 o.type 52 i _ 6 80 Try.underlying32 hi hz0 hz1 hz2 rfl (by omega) v N (os.flatMap encA) hown ⟨g, 0, none⟩ 1 1 ([l].flatMap encA) rfl (fun j u hu => by
    rw [add_plain _ rfl]
    have := hBl.at (i := j) (v := u) (by rw [List.flatMap_cons, List.flatMap_nil, List.append_nil] at hu; unfold encA at hu; simpa using hu)
    simpa using this) hone (by unfold maxLen; omega) (by omega) hB
  unfold wpList
  rw [if_pos hw]
  left
  unfold Oper.wp execOp
  simp only [ho, resolve, invoke, builtin, Sem.run_bind, Sem.run_pure, Result.andThen_ok, List.map_toArray, List.map_cons, List.map_nil, hs, hx, hr]
  exact h v' w' (by rw [List.flatMap_append]; exact g2) g3 g5
theorem bs_ns0 (A : World) (hw : Region.wanted o (yielded ops a.tmps) = true) {parts : Array (Nat × Operand)} (ho : o.op = .buildSlice 53 0 parts) (hl : parts.map (fun (i, x) => (i, a.eval x)) = #[]) (hA : A.heap.size ≤ w.heap.size)
    (h : ∀ W', W'.ownsRow A.heap.size 24 1 (.slice (some ⟨w.heap.size, 0, none⟩) 0 0) 0 [] → Below w.heap.size w W' → wpList Try.prog ops Q rest (a.put o.dst (.slice (some ⟨w.heap.size, 0, none⟩) 0 0)) W') : wpList Try.prog ops Q (o :: rest) a w := by
  unfold wpList
  rw [if_pos hw]
  left
  unfold Oper.wp execOp
  simp only [ho, Sem.run_bind, hl, bsns0, Result.andThen_ok]
  exact h _ (own_empty w A 24 1 hA) ((Below.refl _ _).alloc (Nat.le_refl _) _)
theorem bs_ns1 (hw : Region.wanted o (yielded ops a.tmps) = true) {parts : Array (Nat × Operand)} (ho : o.op = .buildSlice 53 1 parts) (q : Option Addr) (n c : Nat) (hl : parts.map (fun (i, x) => (i, a.eval x)) = #[(0, .slice q n c)])
    (h : ∀ W', Blk W' w.heap.size #[.slice q n c] 24 → Below w.heap.size w W' → wpList Try.prog ops Q rest (a.put o.dst (.slice (some ⟨w.heap.size, 0, none⟩) 1 1)) W') : wpList Try.prog ops Q (o :: rest) a w := by
  unfold wpList
  rw [if_pos hw]
  left
  unfold Oper.wp execOp
  simp only [ho, Sem.run_bind, hl, bsns1, Result.andThen_ok]
  exact h _ (Blk.new _ _ _) ((Below.refl _ _).alloc (Nat.le_refl _) _)
theorem app_ns (hw : Region.wanted o (yielded ops a.tmps) = true) {s x : Operand} (ho : o.op = .call { callee := .builtin .append, args := #[s, x], argTypes := #[53, 53] })
    {v : Value} {N B g : Nat} {vs : List Value} (q : Option Addr) (n c : Nat) (hs : a.eval s = v) (hown : w.ownsRow B 24 1 v N vs) (hx : a.eval x = .slice (some ⟨g, 0, none⟩) 1 1) (hBl : Blk w g #[.slice q n c] 24) (hk : N ≤ 4000) (hB : B ≤ w.heap.size)
    (h : ∀ v' w', w'.ownsRow B 24 1 v' (N + 1) (vs ++ [.slice q n c]) → w.grownBy w' v.ownBlock → (v'.ownBlock = v.ownBlock ∨ v'.ownBlock = some w.heap.size) → wpList Try.prog ops Q rest (a.put o.dst v') w') : wpList Try.prog ops Q (o :: rest) a w := by
  obtain ⟨i, hi, hz0, hz1, hz2⟩ := info_parts infoNs
  obtain ⟨v', w', hr, g2, g3, g4, g5⟩ := run_append_own_at (P := Try.prog) w B 53 o.type 24 i _ 1 24 Try.underlying53 hi hz0 hz1 hz2 rfl (by omega) v N vs hown ⟨g, 0, none⟩ 1 1 [.slice q n c] rfl (fun j u hu => by
    rw [add_plain _ rfl]
    have := hBl.at (i := j) (v := u) (by simpa using hu)
    simpa using this) (fun u hu => by rw [List.mem_singleton.1 hu]; rfl) (by unfold maxLen; omega) (by omega) hB
  unfold wpList
  rw [if_pos hw]
  left
  unfold Oper.wp execOp
  simp only [ho, resolve, invoke, builtin, Sem.run_bind, Sem.run_pure, Result.andThen_ok, List.map_toArray, List.map_cons, List.map_nil, hs, hx, hr]
  exact h v' w' g2 g3 g5
end
/-- Acts that a law has made: a row of its own, each with slices that stay. -/
structure AcO (W0 W : World) (v : Value) (os : List AcD) : Prop where
  own : W.ownsRow W0.heap.size 52 6 v os.length (os.flatMap encA)
  im : ∀ x ∈ os, Im W0 W W0.heap.size x.vo x.o ∧ Im W0 W W0.heap.size x.vn x.n
  sw : ∀ x ∈ os, x.kd = 0 → x.k = 2 ∧ x.o = [] ∧ x.n.length = 1
theorem grown_frm {v : Value} {A B : World} (h : A.grownBy B v.ownBlock) : Frm (fun k => v.ownBlock = some k) A B := ⟨h.os, h.tape, h.output, h.size, fun i hi hx => h.block i hi (fun e => hx e.symm)⟩
theorem AcO.frm {X : Nat → Prop} {W0 W W' : World} {v : Value} {os : List AcD} (h : AcO W0 W v os) (hf : Frm X W W') (hN : NoI X W) (hx : ∀ k, v.ownBlock = some k → ¬ X k) : AcO W0 W' v os :=
  ⟨own_frm h.own hf hx, fun x hx => ⟨(h.im x hx).1.frm hf hN, (h.im x hx).2.frm hf hN⟩, h.sw⟩
theorem AcO.keep {W0 W W' : World} {v : Value} {os : List AcD} (h : AcO W0 W v os) (hb : Below W.heap.size W W') : AcO W0 W' v os := h.frm (X := fun _ => False) (frm_below hb) (noI_false W) (fun _ _ e => e)
theorem AcO.more {W0 W W' : World} {v v' : Value} {os : List AcD} {x : AcD} (h : AcO W0 W v os) (hg : W.grownBy W' v.ownBlock) (ho : W'.ownsRow W0.heap.size 52 6 v' (os.length + 1) ((os ++ [x]).flatMap encA)) (hi : Im W0 W W0.heap.size x.vo x.o ∧ Im W0 W W0.heap.size x.vn x.n) (hs : x.kd = 0 → x.k = 2 ∧ x.o = [] ∧ x.n.length = 1) : AcO W0 W' v' (os ++ [x]) := by
  have hf := grown_frm hg
  have hN : NoI (fun k => v.ownBlock = some k) W := fun k hk hi => by have := hi.uniq (own_kindR h.own hk); cases this
  refine ⟨by rw [List.length_append]; exact ho, fun y hy => ?_, fun y hy => ?_⟩ <;> rcases List.mem_append.1 hy with e | e
  · exact ⟨(h.im y e).1.frm hf hN, (h.im y e).2.frm hf hN⟩
  · rw [List.mem_singleton.1 e]; exact ⟨hi.1.frm hf hN, hi.2.frm hf hN⟩
  · exact h.sw y e
  · rw [List.mem_singleton.1 e]; exact hs
theorem AcO.row {W0 W : World} {v : Value} {os : List AcD} (h : AcO W0 W v os) (h0 : Below W0.heap.size W0 W) (hz : os.length ≤ 400) : ∃ q cap g, v = .slice q os.length cap ∧ AcRow W q os.length cap g 0 os := by
  by_cases he : os = []
  · subst he
    rcases h.own.2 with ⟨e, -⟩ | ⟨g, cap, cur, e, _, _, h3, h4, _⟩
    · exact ⟨none, 0, 0, e, rfl, Nat.le_refl _, by omega, fun h => (by cases h), fun h => (by cases h), fun j x hx => (by cases hx)⟩
    · exact ⟨_, cap, 0, e, rfl, h3, by unfold maxLen at h4; omega, fun h => (by cases h), fun h => (by cases h), fun j x hx => (by cases hx)⟩
  · have hne : v ≠ .slice none 0 0 := fun e => by
      rcases h.own.2 with ⟨-, e2⟩ | ⟨g, cap, cur, e2, _⟩
      · exact he (List.eq_nil_of_length_eq_zero e2)
      · rw [e] at e2; cases e2
    obtain ⟨gd, cd, e, h1, h2, h3, h4, h5⟩ := own_cells h.own hne
    refine ⟨_, cd, gd, e, rfl, h3, by unfold maxLen at h4; omega, fun _ => rfl, fun _ => h2, fun j x hx => ?_⟩
    have hi := h.im x (List.mem_of_getElem? hx)
    have C : ∀ c u, c < 6 → (encA x)[c]? = some u → W.cell? ⟨gd, 0 + j * 6 + c, none⟩ = some u := fun c u hc hu => by rw [Nat.zero_add]; exact h5 _ _ (by rw [fl_at encA_len hx hc]; exact hu)
    exact ⟨C 0 _ (by omega) rfl, C 1 _ (by omega) rfl, C 2 _ (by omega) rfl, C 3 _ (by omega) rfl, C 4 _ (by omega) rfl, C 5 _ (by omega) rfl, hi.1.is h0, hi.2.is h0⟩
end Go.Proofs.Ytodmhohccclhmaa
