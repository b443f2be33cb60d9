/-
  Rows of registers of the call's own, each with a marked copy of its value.
-/
import Derived.Test.YtpcejajidhfmpaaChN
namespace Go.Proofs.Ytpcejajidhfmpaa
open Go.RowKit
set_option linter.unusedVariables false

def flR (os : List RrD) : List Value := os.flatMap fun r => (rC r.p r.a r.v).toList
theorem flR_nil : flR [] = [] := rfl
theorem flR_cons (r : RrD) (os : List RrD) : flR (r :: os) = (rC r.p r.a r.v).toList ++ flR os := rfl
theorem flR_one1 (r : RrD) : flR [r] = (rC r.p r.a r.v).toList := by simp [flR]
theorem flR_append (os ps : List RrD) : flR (os ++ ps) = flR os ++ flR ps := by simp [flR]
theorem flR_len (os : List RrD) : (flR os).length = os.length * 7 := by
  induction os with
  | nil => rfl
  | cons r os ih => rw [flR_cons, List.length_append, ih, List.length_cons]; simp; omega
theorem flR_at {os : List RrD} {j i : Nat} {r : RrD} (h : os[j]? = some r) (hi : i < 7) : (flR os)[j * 7 + i]? = (rC r.p r.a r.v).toList[i]? := by
  induction os generalizing j with
  | nil => simp at h
  | cons x os ih =>
    rw [flR_cons]
    cases j with
    | zero =>
      simp at h
      subst h
      rw [Nat.zero_mul, Nat.zero_add, List.getElem?_append_left (by simpa using hi)]
    | succ j =>
      rw [List.getElem?_cons_succ] at h
      rw [List.getElem?_append_right (by simp; omega)]
      rw [← ih h]
      congr 1
      simp
      omega
theorem flR_ones {p a : Bt} {q : Option Addr} {n c : Nat} : ∀ u ∈ (rC p a (.slice q n c)).toList, u.oneCell' = true := by
  intro u hu
  simp at hu
  rcases hu with rfl | rfl | rfl | rfl | rfl | rfl | rfl <;> rfl
/-- A row of registers of the call's own. -/
def Ro (W : World) (base : Nat) (v : Value) (os : List RrD) : Prop := W.ownsRow base 61 7 v os.length (flR os)
def CnA (W : World) (base : Nat) (os : List RrD) : Prop := ∀ r ∈ os, Cn W base r.v r.l
theorem Ro.keep {W W' : World} {base : Nat} {v : Value} {os : List RrD} (h : Ro W base v os) (hb : Below W.heap.size W W') : Ro W' base v os := own_keep h hb
theorem CnA.keep {W W' : World} {base : Nat} {os : List RrD} (h : CnA W base os) (hb : Below W.heap.size W W') : CnA W' base os := fun r hr => (h r hr).keep hb
theorem CnA.other {W W' : World} {base g : Nat} {os : List RrD} {cs : Array Value} {t : TypeId} (h : CnA W base os) (hB : Blk W g cs t) (ht : t ≠ 3) (hc : Chg g W W') : CnA W' base os := fun r hr => (h r hr).other hB ht hc
theorem Cn.grown {W W' : World} {base b n : Nat} {v u : Value} {l : List Int} {xs : List Value} {e s : Nat} (h : Cn W base v l) (hR : W.ownsRow b e s u n xs) (he : 3 ≠ e) (hg : W.grownBy W' u.ownBlock) : Cn W' base v l := by
  obtain ⟨g, cap, rfl, h1⟩ := h
  exact ⟨g, cap, rfl, h1.kept hg (sep_ty h1 hR he)⟩
theorem ro_form {W : World} {base : Nat} {v : Value} {os : List RrD} (h : Ro W base v os) : ∃ q c, v = .slice q os.length c := by
  rcases h.2 with ⟨h1, h2⟩ | ⟨g, cap, cur, h1, _⟩
  · rw [h2]; exact ⟨none, 0, h1⟩
  · exact ⟨_, _, h1⟩
theorem ro_row {W : World} {base n c : Nat} {q : Option Addr} {os : List RrD} (h : Ro W base (.slice q n c) os) (hc : CnA W base os) (hz : ∀ r ∈ os, r.l.length ≤ 17592186043904) : ∃ g, RrRow W q n c g 0 os := by
  rcases h.2 with ⟨h1, h2⟩ | ⟨g, cap, cur, h1, hb, hg, h3, h4, h5, h6⟩
  · cases h1
    have : os = [] := List.eq_nil_of_length_eq_zero h2
    subst this
    exact ⟨0, rfl, by omega, by omega, fun h => absurd h (by omega), fun h => absurd h (by omega), fun j x hx => by simp at hx⟩
  · cases h1
    have hcell : ∀ j u, (flR os)[j]? = some u → W.cell? ⟨g, j, none⟩ = some u := by
      intro j u hu
      have hj : j < (flR os).length := (List.getElem?_eq_some_iff.1 hu).1
      rw [cell_of_row W g j cur 61 (0, 0) hg]
      have hl := h.1
      rw [← h6, List.getElem?_take_of_lt (by omega)] at hu
      simpa using hu
    refine ⟨g, rfl, h3, by unfold maxLen at h4; omega, fun _ => rfl, fun _ => (Array.getElem?_eq_some_iff.1 hg).1, fun j x hx => ?_⟩
    rw [Nat.zero_add]
    have hm := List.mem_of_getElem? hx
    exact ⟨hcell _ _ (flR_at (i := 0) hx (by omega)), hcell _ _ (flR_at (i := 1) hx (by omega)), hcell _ _ (flR_at (i := 2) hx (by omega)), hcell _ _ (flR_at (i := 3) hx (by omega)), hcell _ _ (flR_at (i := 4) hx (by omega)), hcell _ _ (flR_at (i := 5) hx (by omega)), hcell _ _ (flR_at (i := 6) hx (by omega)), (hc x hm).is, hz x hm⟩
theorem infoReg : (Try.prog.info? 61).map (fun i => (i.zero, i.size, i.bytes)) = some (some (rV zB zB (.slice none 0 0)), 7, 72) := by kernel_rfl
theorem bsr0 (w : World) : (Instr.buildSlice 36 0 #[]).run Try.prog w = .ok (.slice (some ⟨w.heap.size, 0, none⟩) 0 0) (w.alloc (.cells #[] 61)) := by kernel_rfl
theorem bsr1 (p a : Bt) (q : Option Addr) (n c : Nat) (w : World) : (Instr.buildSlice 36 1 #[(0, rV p a (.slice q n c))]).run Try.prog w = .ok (.slice (some ⟨w.heap.size, 0, none⟩) 1 1) (w.alloc (.cells (rC p a (.slice q n c)) 61)) := by kernel_rfl
section
variable {ops : Array Oper} {rest : List Oper} {o : Oper} {a : Act} {w : World} {Q : Exit → Act → World → Prop}
theorem bs_r0 (A : World) (hw : Region.wanted o (yielded ops a.tmps) = true) {parts : Array (Nat × Operand)} (ho : o.op = .buildSlice 36 0 parts) (hl : parts.map (fun (i, x) => (i, a.eval x)) = #[]) (hA : A.heap.size ≤ w.heap.size)
    (h : ∀ W', Ro W' A.heap.size (.slice (some ⟨w.heap.size, 0, none⟩) 0 0) [] → Below w.heap.size w W' → wpList Try.prog ops Q rest (a.put o.dst (.slice (some ⟨w.heap.size, 0, none⟩) 0 0)) W') : wpList Try.prog ops Q (o :: rest) a w := by
  unfold wpList
  rw [if_pos hw]
  left
  unfold Oper.wp execOp
  simp only [ho, Sem.run_bind, hl, bsr0, Result.andThen_ok]
  exact h _ (own_empty w A 61 7 hA) ((Below.refl _ _).alloc (Nat.le_refl _) _)
theorem bs_r1 (hw : Region.wanted o (yielded ops a.tmps) = true) {parts : Array (Nat × Operand)} (ho : o.op = .buildSlice 36 1 parts) (p b : Bt) (q : Option Addr) (n c : Nat) (hl : parts.map (fun (i, x) => (i, a.eval x)) = #[(0, rV p b (.slice q n c))])
    (h : ∀ W', Blk W' w.heap.size (rC p b (.slice q n c)) 61 → Below w.heap.size w W' → wpList Try.prog ops Q rest (a.put o.dst (.slice (some ⟨w.heap.size, 0, none⟩) 1 1)) W') : wpList Try.prog ops Q (o :: rest) a w := by
  unfold wpList
  rw [if_pos hw]
  left
  unfold Oper.wp execOp
  simp only [ho, Sem.run_bind, hl, bsr1, Result.andThen_ok]
  exact h _ (Blk.new _ _ _) ((Below.refl _ _).alloc (Nat.le_refl _) _)
theorem app_r (A : World) (hw : Region.wanted o (yielded ops a.tmps) = true) {s x : Operand} (ho : o.op = .call { callee := .builtin .append, args := #[s, x], argTypes := #[36, 36] })
    {v : Value} {os : List RrD} {p b : Bt} {q : Option Addr} {n c g : Nat} (l : List Int) (hs : a.eval s = v) (hown : Ro w A.heap.size v os) (hx : a.eval x = .slice (some ⟨g, 0, none⟩) 1 1) (hB : Blk w g (rC p b (.slice q n c)) 61) (hk : os.length ≤ 1000) (hA : Below A.heap.size A w)
    (h : ∀ v' w', Ro w' A.heap.size v' (os ++ [⟨p, b, .slice q n c, l⟩]) → Below A.heap.size A w' → w.grownBy w' v.ownBlock → wpList Try.prog ops Q rest (a.put o.dst v') w') : wpList Try.prog ops Q (o :: rest) a w := by
  refine app_ownG A hw ho Try.underlying36 infoReg rfl (by omega) hs hown (rC p b (.slice q n c)).toList hx (fun e => by cases e) (by simp) (fun ad had j u hu => ?_) flR_ones (by unfold maxLen; omega) (by omega) hA fun v' w' h1 h2 h3 h4 => ?_
  · cases had
    have := hB.at (i := j) (by simpa using hu)
    rw [add_plain _ rfl]
    simpa using this
  · refine h v' w' ?_ h3 h4
    unfold Ro
    rw [flR_append, flR_one1, List.length_append]
    exact h1
end
end Go.Proofs.Ytpcejajidhfmpaa
