/-
  package diary in memory: Open.
-/
import Derived.Test.YtalbiggmmmkclaaDyB
namespace Go.Proofs.Ytalbiggmmmkclaa
open Go.RowKit
set_option linter.unusedVariables false
set_option maxRecDepth 100000

section
variable {ops : Array Oper} {rest : List Oper} {o : Oper} {a : Act} {w : World} {Q : Exit → Act → World → Prop}
/-- 'b[:j]' of own bytes. -/
theorem slb_hO (hw : Region.wanted o (yielded ops a.tmps) = true) {x z : Operand} (ho : o.op = .slice 39 x none (some z) none) {base : Nat} {q : Option Addr} {n cap : Nat} {J : Int} {kj : IntKind} {l : List Nat} (j : Nat)
    (hx : a.eval x = .slice q n cap) (hz : a.eval z = .int kj J) (hJ : J = (j : Int)) (h2 : j ≤ n) (hown : w.ownsRow base 5 1 (.slice q n cap) n (bys l))
    (hK : w.ownsRow base 5 1 (.slice q j cap) j (bys (l.take j)) → wpList Try.prog ops Q rest (a.put o.dst (.slice q j cap)) w) : wpList Try.prog ops Q (o :: rest) a w := by
  obtain ⟨e, h3, h4, h5⟩ := cut_own hown h2
  have hr := slb_h_run (w := w) ho hx hz hJ h4
  rw [e] at hr
  exact valS hw _ hr (hK h3)
end
theorem Ow.at {W W' : World} {base : Nat} {v : Value} {l : List Nat} (h : Ow W base v l) (he : ∀ k, base ≤ k → k < W.heap.size → W'.heap[k]? = W.heap[k]?) : Ow W' base v l :=
  own_at h fun g hg => he g (h.lt g hg).1 (h.lt g hg).2
theorem Bag.at {W W' : World} {base : Nat} {vs : List Value} {ls : List (List Nat)} (h : Bag W base vs ls) (he : ∀ k, base ≤ k → k < W.heap.size → W'.heap[k]? = W.heap[k]?) : Bag W' base vs ls :=
  ⟨h.1, fun j v l hv hl => (h.2 j v l hv hl).at he, h.3⟩
theorem Lis.at {W W' : World} {base : Nat} {v : Value} {vs : List Value} {ls : List (List Nat)} (h : Lis W base v vs ls) (he : ∀ k, base ≤ k → k < W.heap.size → W'.heap[k]? = W.heap[k]?) : Lis W' base v vs ls :=
  ⟨own_at h.row fun g hg => he g (h.row.lt g hg).1 (h.row.lt g hg).2, h.bag.at he, h.sep⟩
theorem Lis.less {W : World} {base base' : Nat} {v : Value} {vs : List Value} {ls : List (List Nat)} (h : Lis W base v vs ls) (hb : base' ≤ base) : Lis W base' v vs ls :=
  ⟨own_less h.row hb, ⟨h.bag.1, fun j v l hv hl => (h.bag.2 j v l hv hl).less hb, h.bag.3⟩, h.sep⟩
theorem Lis.ls {W : World} {base : Nat} {v : Value} {vs : List Value} {ls : List (List Nat)} (h : Lis W base v vs ls) : Ls W v vs ls := h.bag.ls h.row
/-- What is younger than the tape's memory stays. -/
theorem mv_young {W w w' : World} {base b : Nat} {v v' : Value} {S : TS} (hT : Tp W base b v S) (m : Mv b w w' v v') (k : Nat) (h1 : W.heap.size ≤ k) (h2 : k < w.heap.size) : w'.heap[k]? = w.heap[k]? :=
  m.other k h2 (by have := hT.blk.lt; omega) (fun e => by have := (hT.own.lt k e).2; omega)
/-- What an Open answers. -/
def OpR (w w' : World) (b : Nat) (S : TS) (e : Ending) : Prop :=
  (opN S ≠ 0 → e = .returned (.tuple #[.pointer none, .slice none 0 0, Err ((opN S : Nat) : Int)])) ∧
  (opN S = 0 → ∃ d vl vs, e = .returned (.tuple #[tptr d, vl, .nilIface]) ∧ w.heap.size ≤ d ∧ Blk w' d (dcs b (spt S.l).length (spN (spt S.l))) 80 ∧ Lis w' w.heap.size vl vs (spt S.l))
set_option maxHeartbeats 1000000 in
theorem dopen_any (base b : Nat) (v : Value) (S : TS) (w : World) (hT : Tp w base b v S) (hst : S.steps < 4611686018427387000) (hby : Byt S.l) :
    Calls Try.prog 12 #[tptr b] w fun e w' => OpR w w' b S e ∧ ∃ v', Tp w' base b v' (opS S) ∧ Mv b w w' v v' := by
  have c7 := hT.oct.c7
  by_cases hd : S.down = true
  · have hN : Hid (opN S = 5) := if_pos hd
    have hS : Hid (opS S = S) := if_pos hd
    rw [hd] at c7
    go_enter Try.func12, Try.ntmps12
    go_wp2_with (go_at_call 35; refine (down_any b _ _ c7).mono ?_; rintro e W1 ⟨rfl, hW1⟩; subst W1)
    go_ret3
    exact ⟨⟨fun _ => by rw [hN.out]; rfl, fun h => by rw [hN.out] at h; cases h⟩, v, by rw [hS.out]; exact hT, Mv.refl _ _ _⟩
  · have hmx := hT.max
    have hle := spt_le S.l hby
    have hfew := spt_few S.l hby
    have hd' : S.down = false := by simpa using hd
    rw [hd'] at c7
    go_enter Try.func12, Try.ntmps12
    go_upto_region 5 with (first
      | (go_at_call 35; refine (down_any b _ _ c7).mono ?_; rintro e W1 ⟨rfl, hW1⟩; subst W1)
      | (go_at_call 32; refine (tread_any _ _ _ _ _ hT).mono ?_; rintro e W1 ⟨v1, rfl, O1, b1⟩; obtain ⟨q1, c1, e1⟩ := O1.form; subst e1; have h1 := hT.keep b1)
      | (go_at_call 36; refine (split_any _ _ _ O1.sl hby hmx).mono ?_; rintro e W2 ⟨vl, vs, rfl, L2, b2⟩; have h2 := h1.keep b2))
    have O2 := O1.keep b2
    have hlen := L2.ls.len
    obtain ⟨ql, nl, cl, el, hnl⟩ : ∃ q n c, vl = .slice q n c ∧ n = (spt S.l).length := by
      obtain ⟨q, c, e, -⟩ := L2.ls.row
      exact ⟨q, _, c, e, L2.ls.len⟩
    subst el
    have mv2 := (mv_below (b := b) v b1).trans (mv_below v b2)
    clear O1
    generalize hsp : spN (spt S.l) = sp at *
    generalize hn : S.l.length = n at *
    generalize hF : spt S.l = F at *
    by_cases hlt : sp < n
    · have hN : Hid (opN S = stN S) := by show _ = _; unfold opN; rw [if_neg hd, hF, hsp, hn, if_pos hlt]
      have hS : Hid (opS S = rpS S (S.l.take sp)) := by show _ = _; unfold opS; rw [if_neg hd, hF, hsp, hn, if_pos hlt]
      have hlti : (sp : Int) < (n : Int) := by omega
      have HL : Hid ((S.l.take sp).length = sp) := by show _ = _; rw [List.length_take]; omega
      have HR : Hid (rpN S sp = stN S) := if_pos (by omega)
      have hn5 := ne5n
      have hn6 := ne6n
      have O2' : W2.ownsRow w.heap.size 5 1 (.slice q1 n c1) n (bys S.l) := by have := O2; unfold Ow at this; rwa [hn] at this
      go_upto_region 7 with (first
        | (refine slb_hO rfl rfl sp rfl rfl rfl (by omega) O2' ?_; intro O3)
        | (go_at_call 37; refine (replace_any _ _ _ _ _ _ _ h2 (by omega) (stb_own hT O3)).mono ?_; rw [HL.out, HR.out]; rintro e W3 ⟨rfl, v3, h3, m3⟩))
      have L3 := L2.at (mv_young h1 m3)
      have mv3 := mv2.trans m3
      clear O2 O2' O3 L2 mv2 h2
      rcases stN_of S with h0 | h0 | h0
      · rw [errV_ok h0]
        have HN0 : Hid (opN S = 0) := hN.out.trans h0
        go_wp2_with fail
        go_ret3
        subst hnl
        have ba : Below W3.heap.size W3 (W3.alloc (.cells (dcs b F.length sp) 80)) := (Below.refl _ _).alloc (Nat.le_refl _) _
        exact ⟨⟨fun h => absurd HN0.out h, fun _ => ⟨W3.heap.size, _, vs, rfl, mv3.size, by rw [hF, hsp]; exact Blk.new _ _ _, by rw [hF]; exact (L3.less b1.size).keep ba⟩⟩, v3, by rw [hS.out]; exact h3.keep ba, mv3.trans (mv_below v3 ba)⟩
      · rw [h0, show errV 5 = Err 5 from rfl]
        have HN0 : Hid (opN S = 5) := hN.out.trans h0
        go_wp2_with fail
        go_ret3
        exact ⟨⟨fun _ => by rw [HN0.out]; rfl, fun h => by rw [HN0.out] at h; cases h⟩, v3, by rw [hS.out]; exact h3, mv3⟩
      · rw [h0, show errV 6 = Err 6 from rfl]
        have HN0 : Hid (opN S = 6) := hN.out.trans h0
        go_wp2_with fail
        go_ret3
        exact ⟨⟨fun _ => by rw [HN0.out]; rfl, fun h => by rw [HN0.out] at h; cases h⟩, v3, by rw [hS.out]; exact h3, mv3⟩
    · have hN : Hid (opN S = 0) := by show _ = _; unfold opN; rw [if_neg hd, hF, hsp, hn, if_neg hlt]
      have hS : Hid (opS S = S) := by show _ = _; unfold opS; rw [if_neg hd, hF, hsp, hn, if_neg hlt]
      have hlti : ¬ (sp : Int) < (n : Int) := by omega
      go_wp2_with fail
      go_ret3
      subst hnl
      have ba : Below W2.heap.size W2 (W2.alloc (.cells (dcs b F.length sp) 80)) := (Below.refl _ _).alloc (Nat.le_refl _) _
      exact ⟨⟨fun h => absurd hN.out h, fun _ => ⟨W2.heap.size, _, vs, rfl, mv2.size, by rw [hF, hsp]; exact Blk.new _ _ _, by rw [hF]; exact (L2.less b1.size).keep ba⟩⟩, v, by rw [hS.out]; exact h2.keep ba, mv2.trans (mv_below v ba)⟩
end Go.Proofs.Ytalbiggmmmkclaa
