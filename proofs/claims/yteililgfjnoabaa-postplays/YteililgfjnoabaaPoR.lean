/-
  The document's post: Send, Take.
-/
import Derived.Test.YteililgfjnoabaaPoH
namespace Go.Proofs.Yteililgfjnoabaa
open Go.RowKit
set_option linter.unusedVariables false
set_option maxRecDepth 100000

def rcs8 (u : Value) (S : PS) : Array Value := #[u, .int .i64 S.lost, .int .i64 S.taken]
/-- The document's post at block r, its messages in u. -/
structure Rt (W : World) (base r : Nat) (u : Value) (S : PS) : Prop where
  ge : base ≤ r
  blk : Blk W r (rcs8 u S) 30
  own : W.ownsRow base 9 1 u S.l.length (txv S.l)
theorem Rt.lt {W : World} {base r : Nat} {u : Value} {S : PS} (h : Rt W base r u S) : base < W.heap.size := Nat.lt_of_le_of_lt h.ge h.blk.lt
theorem Rt.below {W W' : World} {base r : Nat} {u u' : Value} {S : PS} (h : Rt W base r u S) (m : Mv r W W' u u') : Below base W W' :=
  ⟨m.os, m.tape, m.output, m.size, fun k hk => m.other k (Nat.lt_trans hk h.lt) (by have := h.ge; omega) (fun e => by have := (h.own.lt k e).1; omega)⟩
theorem Rt.apart {W : World} {base r : Nat} {u : Value} {S : PS} (h : Rt W base r u S) : u.ownBlock ≠ some r := blk_own h.own h.blk (by decide)
theorem Rt.keep {W W' : World} {base r : Nat} {u : Value} {S : PS} (h : Rt W base r u S) (hb : Below W.heap.size W W') : Rt W' base r u S := ⟨h.ge, h.blk.keep hb, own_keep h.own hb⟩
theorem Rt.txs {W : World} {base r : Nat} {u : Value} {S : PS} (h : Rt W base r u S) : Txs W u S.l := (txo_of h.own).txs
theorem Rt.form {W : World} {base r : Nat} {u : Value} {S : PS} (h : Rt W base r u S) : ∃ q cap, u = .slice q S.l.length cap ∧ S.l.length ≤ cap ∧ cap ≤ 9223372036854775807 := by
  obtain ⟨q, cap, g, off, e, h1, h2, _⟩ := h.txs
  exact ⟨q, cap, e, h1, h2⟩
theorem Rt.ult {W : World} {base r : Nat} {u : Value} {S : PS} (h : Rt W base r u S) : ∀ k, u.ownBlock = some k → k < W.heap.size := fun k e => (h.own.lt k e).2
theorem Rt.chg {W W' : World} {base r : Nat} {u : Value} {S S' : PS} (h : Rt W base r u S) (hB : Blk W' r (rcs8 u S') 30) (hc : Chg r W W') (hl : S'.l = S.l) : Rt W' base r u S' :=
  ⟨h.ge, hB, by rw [hl]; exact own_chgT h.own hc h.apart⟩
/-- Where message i lies. -/
theorem Rt.at {w : World} {base r i : Nat} {u : Value} {S : PS} {m : List Nat} (h : Rt w base r u S) (hm : S.l[i]? = some m) : ∃ g cap, u = .slice (some ⟨g, 0, none⟩) S.l.length cap ∧ S.l.length ≤ cap ∧ cap ≤ 9223372036854775807 ∧ g < w.heap.size ∧ w.cell? ⟨g, i, none⟩ = some (.string (strB m)) := by
  have hi : i < S.l.length := (List.getElem?_eq_some_iff.1 hm).1
  have hnn : u ≠ .slice none 0 0 := by
    intro e
    rcases h.own.2 with ⟨_, h2⟩ | ⟨g', cap', cur, e2, _⟩
    · omega
    · rw [e] at e2; cases e2
  obtain ⟨g, cap, e, hb, hg, hc, hmx, hr⟩ := own_cells h.own hnn
  exact ⟨g, cap, e, hc, hmx, hg, hr i _ (by rw [txv_at, hm]; rfl)⟩
set_option maxHeartbeats 2000000 in
theorem rsend_any (base r : Nat) (u : Value) (S : PS) (m : List Nat) (w : World) (h : Rt w base r u S) (hmax : S.l.length ≤ 4096) :
    Calls Try.prog 13 #[pptr r, .string (strB m)] w fun e w' => e = .returned (.tuple #[]) ∧ ∃ u', Rt w' base r u' (put1 S m) ∧ Mv r w w' u u' := by
  obtain ⟨q, cap, e, hc, hm⟩ := h.form
  have c0 : w.cell? ⟨r, 0, none⟩ = some (.slice q S.l.length cap) := by rw [← e]; exact h.blk.at rfl
  have c1 : w.cell? ⟨r, 1, none⟩ = some (.int .i64 S.lost) := h.blk.at rfl
  have f0 := h.blk.frozen 0
  have f1 := h.blk.frozen 1
  by_cases hlt : S.l.length < 4096
  · have hli : ¬ (4096 : Int) ≤ (S.l.length : Int) := by omega
    have hown : w.ownsRow base 9 1 (.slice q S.l.length cap) S.l.length (txv S.l) := by rw [← e]; exact h.own
    have hap := h.apart
    rw [e] at hap
    go_enter Try.func13, Try.ntmps13
    go_wp2_with (first
      | (refine bs_st (by kernel_rfl) rfl [m] (by simp only [List.map_toArray, List.map_cons, List.map_nil]; rfl) (bss1 _ _) rfl (by decide) ?_; intro W2 n2 b2; have HO2 := own_keep hown b2; have t2 := (txo_of n2).txs; have B2 := h.blk.keep b2; go_frame)
      | (at_builtin; refine app_st base (by kernel_rfl) rfl rfl HO2 rfl t2 rfl (by simp; omega) (Nat.le_trans (Nat.le_of_lt h.lt) b2.size) ?_; intro v5 W5 hown5 hgr5 hat5; have B5 := blk_grownT B2 hgr5 hap; have d5 := B5.at (i := 0) rfl; have g5 := B5.frozen 0; obtain ⟨q5, c5, e5⟩ := (txo_of hown5).txs.slice; rw [e5]; generalize (S.l ++ [m]).length = N5 at *; go_frame))
    go_end0
    rw [← e5]
    have hap5 := blk_own hown5 B5 (by decide)
    have k6 := chg_set W5 r 0 v5
    refine ⟨rfl, v5, ?_, ?_⟩
    · unfold put1
      rw [if_pos hlt]
      exact ⟨h.ge, B5.set 0 v5, txo_of (own_chgT hown5 k6 hap5)⟩
    · exact (mv_below _ b2).trans ((mv_grown hgr5 hat5).trans (mv_chg v5 k6))
  · have hli : (4096 : Int) ≤ (S.l.length : Int) := by omega
    go_enter Try.func13, Try.ntmps13
    go_wp2_with fail
    refine bodyPost_ret (results_none rfl _ _ _) rfl ?_
    refine ⟨rfl, u, ?_, mv_chg u (chg_set _ _ _ _)⟩
    unfold put1
    rw [if_neg hlt]
    exact h.chg (S' := { S with lost := inc S.lost }) (h.blk.set 1 (.int .i64 (inc S.lost))) (chg_set _ _ _ _) rfl
theorem str_nil : strB [] = ⟨#[]⟩ := by decide +kernel
/-- What Take has found among the first j. -/
def tk (l : List (List Nat)) (I j : Nat) : List Nat := if I < j then l.getD I [] else []
theorem er_same (l : List (List Nat)) (j : Nat) (x : List Nat) (h : l[j]? = some x) : (l.take (j + 1)).eraseIdx j = (l.take j).eraseIdx j := by
  have hj : j < l.length := (List.getElem?_eq_some_iff.1 h).1
  rw [List.take_add_one, h]
  have e : (l.take j).length = j := by rw [List.length_take]; omega
  show (l.take j ++ [x]).eraseIdx j = _
  rw [List.eraseIdx_append_of_length_le (by omega), e, Nat.sub_self]
  rw [List.eraseIdx_of_length_le (l := l.take j) (by omega)]
  simp
theorem er_more (l : List (List Nat)) (I j : Nat) (x : List Nat) (h : l[j]? = some x) (hI : j ≠ I) : (l.take (j + 1)).eraseIdx I = (l.take j).eraseIdx I ++ [x] := by
  have hj : j < l.length := (List.getElem?_eq_some_iff.1 h).1
  have e : (l.take j).length = j := by rw [List.length_take]; omega
  rw [List.take_add_one, h]
  show (l.take j ++ [x]).eraseIdx I = _
  by_cases c : I < j
  · rw [List.eraseIdx_append_of_lt_length (by omega)]
  · rw [List.eraseIdx_append_of_length_le (by omega), e, List.eraseIdx_of_length_le (l := l.take j) (by omega), List.eraseIdx_of_length_le (by simp; omega)]
theorem tk_step (l : List (List Nat)) (I j : Nat) (h : j ≠ I) : tk l I (j + 1) = tk l I j ∧ decide (I < j + 1) = decide (I < j) := by
  have e : (I < j + 1) = (I < j) := propext ⟨fun _ => by omega, fun _ => by omega⟩
  unfold tk
  simp only [e, and_self]
set_option maxHeartbeats 4000000 in
theorem mtake_any (base r I : Nat) (i : Int) (u : Value) (S : PS) (w : World) (h : Rt w base r u S) (hmax : S.l.length ≤ 4096) (hI : ∀ j : Nat, j < S.l.length → ((j : Int) = i ↔ j = I)) :
    Calls Try.prog 17 #[pptr r, .int .i64 i] w fun e w' => e = .returned (.tuple #[.string (strB (tk S.l I S.l.length)), .bool (decide (I < S.l.length))]) ∧ ∃ u', Rt w' base r u' ⟨S.l.eraseIdx I, S.lost, S.taken⟩ ∧ Mv r w w' u u' ∧ ∀ k, u'.ownBlock = some k → w.heap.size ≤ k := by
  obtain ⟨q, cap, g, off, e, hc, hm, hp, hg, hr⟩ := h.txs
  have HN : Hid (strB [] = ⟨#[]⟩) := str_nil
  have HB := h.blk
  rw [e] at HB
  generalize hn : S.l.length = n at *
  go_enter Try.func17, Try.ntmps17
  go_wp2_with fail
  go_loopw [6, 7, 8, 9] (fun rs ms fd kv wr => ∃ (j : Nat), j ≤ n ∧ kv = .int .i64 (j : Int) ∧ ms = .string (strB (tk S.l I j)) ∧ fd = .bool (decide (I < j)) ∧ Txo wr w.heap.size rs ((S.l.take j).eraseIdx I) ∧ Below w.heap.size w wr) (fun _ _ _ kv _ => n - (intOf kv).toNat)
  case atStart =>
    refine ⟨0, by omega, rfl, ?_, rfl, ?_, Below.refl _ _⟩
    · show _ = Value.string (strB [])
      rw [HN.out]
    · simpa using txo_of (n := 0) (World.ownsRow_nil w _ _ _)
  case round =>
    obtain ⟨j, hj, rfl, rfl, rfl, ho, hb⟩ := hrel
    have B1 := HB.keep hb
    have c0 : wr.cell? ⟨r, 0, none⟩ = some (.slice q n cap) := B1.at (i := 0) rfl
    have f0 := B1.frozen 0
    by_cases cj : j = n
    · subst cj
      rw [List.take_of_length_le (by omega)] at ho
      obtain ⟨q9, c9, e9⟩ := ho.txs.slice
      subst e9
      clear hr hp hg
      go_wp2_with fail
      go_ret2
      have hap : (Value.slice q9 (S.l.eraseIdx I).length c9).ownBlock ≠ some r := fun e => by have := (ho.lt r e).1; have := h.blk.lt; omega
      have k9 := chg_set wr r 0 (.slice q9 (S.l.eraseIdx I).length c9)
      refine ⟨rfl, _, ⟨h.ge, B1.set 0 _, own_less (own_chgT ho k9 hap) (Nat.le_of_lt h.lt)⟩, ?_, fun k hk => (ho.lt k hk).1⟩
      refine ⟨k9.os.trans hb.os, k9.tape.trans hb.tape, k9.output.trans hb.output, by rw [k9.size]; exact hb.size, fun k hk hkr _ => (k9.other k hkr).trans (hb.block k hk), fun x hx => .inr (ho.lt x hx).1⟩
    · obtain ⟨x, hx⟩ : ∃ x, S.l[j]? = some x := ⟨S.l[j], List.getElem?_eq_getElem (by omega)⟩
      obtain rfl := hp (by omega)
      have d := keep_cell hb (hr j x hx) (hg (by omega))
      have hji : (j : Int) < (n : Int) := by omega
      have hjn : j < n := by omega
      have hIj := hI j hjn
      clear hr hp hg
      by_cases cI : j = I
      · have hie : i = (j : Int) := (hIj.2 cI).symm
        subst cI
        subst hie
        have HT : Hid (tk S.l j (j + 1) = x) := by show _ = _; unfold tk; rw [if_pos (by omega)]; simp [List.getD, hx]
        have HE : Hid ((S.l.take (j + 1)).eraseIdx j = (S.l.take j).eraseIdx j) := er_same S.l j x hx
        have HD : Hid (decide (j < j + 1) = true) := decide_eq_true (by omega)
        clear hI hIj hx
        go_wp2_with fail
        exact ⟨⟨j + 1, by omega, rfl, by rw [HT.out], by rw [HD.out], by rw [HE.out]; exact ho, hb⟩, by simp only [intOf]; omega⟩
      · have hne : ((j : Int) == i) = false := by
          rw [beq_eq_false_iff_ne]
          exact fun e => cI (hIj.1 e)
        have HE : Hid ((S.l.take (j + 1)).eraseIdx I = (S.l.take j).eraseIdx I ++ [x]) := er_more S.l I j x hx cI
        have HT : Hid (tk S.l I (j + 1) = tk S.l I j ∧ decide (I < j + 1) = decide (I < j)) := tk_step S.l I j cI
        have ho' : wr.ownsRow w.heap.size 9 1 u6 ((S.l.take j).eraseIdx I).length (txv ((S.l.take j).eraseIdx I)) := ho
        have hle : ((S.l.take j).eraseIdx I).length ≤ 4096 := by
          have h1 := List.length_eraseIdx_le (S.l.take j) I
          rw [List.length_take] at h1
          omega
        clear hI hIj hx
        go_wp2_with (first
          | (refine bs_st (by kernel_rfl) rfl [x] (by simp only [List.map_toArray, List.map_cons, List.map_nil]; rfl) (bss1 _ _) rfl (by decide) ?_; intro W2 n2 b2; have HO2 := own_keep ho' b2; have t2 := (txo_of n2).txs; go_frame)
          | (at_builtin; refine app_st w.heap.size (by kernel_rfl) rfl rfl HO2 rfl t2 rfl (by simp; omega) (ab_trans hb b2).size ?_; intro v5 W5 hown5 hgr5 hat5; go_frame))
        have hb5 := (ab_trans hb b2).trans (below_ownS HO2 (ab_trans hb b2).size hgr5)
        exact ⟨⟨j + 1, by omega, rfl, by rw [HT.out.1], by rw [HT.out.2], by rw [HE.out]; exact txo_of hown5, hb5⟩, by simp only [intOf]; omega⟩
end Go.Proofs.Yteililgfjnoabaa
