/-
  Basin's Cell and missing.
  Basin's missing; a flow's punctuate.
-/
import Derived.Test.YtoeilckeebojmaaPk45
namespace Go.Proofs.Ytoeilckeebojmaa
open Go.RowKit Go.Maps
set_option linter.unusedVariables false
set_option maxRecDepth 100000

theorem ld_ky {W : World} {g : Nat} {k : Kyy} {t : TypeId} (h : Blk W g #[.int .i64 k.1, .int .i64 k.2.1, .int .i64 k.2.2] t) : W.cell? ⟨g, 0, none⟩ = some (.int .i64 k.1) ∧ W.cell? ⟨g, 1, none⟩ = some (.int .i64 k.2.1) ∧ W.cell? ⟨g, 2, none⟩ = some (.int .i64 k.2.2) := ⟨h.at rfl, h.at rfl, h.at rfl⟩
/-- A look-up in a map, where its run is known. -/
theorem lkW {P : Program} {ρ : Operand → Value} {o : Oper} {t : TypeId} {x y : Operand} {b : Bool} (ho : o.op = .lookup t x y b) {mv kv v : Value} (hx : ρ x = mv) (hy : ρ y = kv) {w : World} (hr : (Instr.lookup t mv kv b).run P w = .ok v w) : (execOp ρ o).run P w = .ok (.value v) w := by
  unfold execOp
  simp only [ho, hx, hy, Sem.run_bind, hr, Result.andThen_ok, Sem.run_pure]
set_option maxHeartbeats 1000000 in
theorem bacell_any {B : Nat} {K : Bkk} {S : Bsn} (k : Kyy) (w : World) (h : Bq w B K S) (hk : KyOk k) :
    Calls Try.prog 14 #[bptr K, kyV k] w fun e w' => e = .returned (.tuple #[.agg (CA (S.cv k)), .bool (decide (k ∈ S.ks))]) ∧ Below w.heap.size w w' := by
  have HL : Hid (∀ V, Below w.heap.size w V → (Instr.lookup 91 (.map (some K.m)) (kyV k) true).run Try.prog V = .ok (.tuple #[.agg (CA (S.cv k)), .bool (decide (k ∈ S.ks))]) V) := fun V hb => (h.ce.keep hb).look hk (h.ok.cz k) true
  have HC : Hid (∀ V, Below w.heap.size w V → V.cell? ⟨K.b, 5, none⟩ = some (.map (some K.m))) := fun V hb => (h.cells V hb).2.2.2.2.2
  clear h
  generalize S.cv k = cc at *
  generalize decide (k ∈ S.ks) = bb at *
  obtain ⟨b, m, gf, cf, gb, cb, vr⟩ := K
  obtain ⟨ka, kb, kc⟩ := k
  try dsimp only at *
  obtain ⟨A1, hE, hX, hw1⟩ := blk1 w #[.int .i64 ka, .int .i64 kb, .int .i64 kc] 47
  unfold kyV at *
  go_enter Try.func14, Try.ntmps14
  go_upto_region 3 with (refine al_cell rfl rfl ?_; intro W1 e1 hR1 hg1)
  have hX1 := hX.keep hg1
  have hw := ab_trans hw1 hg1
  have hsz : w.heap.size + 1 = A1.heap.size := by rw [← hE]; simp
  have hz1 : w.heap.size < A1.heap.size := hX.lt
  have hz2 : A1.heap.size < W1.heap.size := hR1.lt
  rw [← e1]
  clear e1 hE
  refine wp_region_held_drew (S := fun w' => Below W1.heap.size W1 w') (by kernel_rfl) (ab_drew (Below.refl _ _)) (fun hHeld => ?_)
  refine takeH (i := 0) (some 12) rfl rfl (by kernel_rfl) (by kernel_rfl) (by kernel_rfl) (fun _ _ _ h => h) (by rfl) (fun w hSw => by (try dsimp only at hSw); go_simp; try rfl) hHeld ?_
  go_frame
  refine takeH (i := 1) (some 13) rfl rfl (by kernel_rfl) (by kernel_rfl) (by kernel_rfl) (fun _ _ _ h => h) (by rfl) (fun w hSw => by (try dsimp only at hSw); go_simp; try rfl) hHeld ?_
  go_frame
  refine takeH (i := 2) (some 14) rfl rfl (by kernel_rfl) (by kernel_rfl) (by kernel_rfl) (fun _ _ _ h => h) (by rfl) (fun w hSw => by (try dsimp only at hSw); go_simp; try rfl) hHeld ?_
  go_frame
  refine takeH (i := 3) (some 15) rfl rfl (by kernel_rfl) (by kernel_rfl) (by kernel_rfl) (fun _ _ _ h => h) (by rfl) (fun w hSw => by (try dsimp only at hSw); (have q5 := HC.out _ (ab_trans hw hSw); go_simp; try rfl)) hHeld ?_
  go_frame
  refine takeH (i := 4) (some 16) rfl rfl (by kernel_rfl) (by kernel_rfl) (by kernel_rfl) (fun _ _ _ h => h) (by rfl) (fun w hSw => by (try dsimp only at hSw); (obtain ⟨q0, q1, q2⟩ := ld_ky (k := (ka, kb, kc)) (hX1.keep hSw); dsimp only at q0 q1 q2; go_simp; try rfl)) hHeld ?_
  go_frame
  refine takeH (i := 5) (some 17) rfl rfl (by kernel_rfl) (by kernel_rfl) (by kernel_rfl) (fun _ _ _ h => h) (by rfl) (fun w hSw => by (try dsimp only at hSw); exact lkW rfl rfl rfl (HL.out _ (ab_trans hw hSw))) hHeld ?_
  go_frame
  refine takeH (i := 6) (some 11) rfl rfl (by kernel_rfl) (by kernel_rfl) (by kernel_rfl) (fun _ _ _ h => h) (by rfl) (fun w hSw => by (try dsimp only at hSw); go_simp; try rfl) hHeld ?_
  go_frame
  refine takeH (i := 7) (some 18) rfl rfl (by kernel_rfl) (by kernel_rfl) (by kernel_rfl) (fun _ _ _ h => h) (by rfl) (fun w hSw => by (try dsimp only at hSw); go_simp; try rfl) hHeld ?_
  go_frame
  refine takeH (i := 8) (some 19) rfl rfl (by kernel_rfl) (by kernel_rfl) (by kernel_rfl) (fun _ _ _ h => h) (by rfl) (fun w hSw => by (try dsimp only at hSw); go_simp; try rfl) hHeld ?_
  go_frame
  refine wpAnyH_ready (rs := [9]) (by kernel_rfl) (by simp) (AllReadyH.cons rfl (fun K hK => ?_) AllReadyH.nil)
  rw [if_pos (by rfl)]
  refine alW (some 6) rfl rfl (CA zc) (zero_cell _) fun W3 hX3 b3 => ?_
  have hs3 := hHeld.size
  refine hK.out _ _ (ab_trans hHeld b3) (fun hHeld => ?_)
  clear hK K
  go_frame
  refine wpAnyH_ready (rs := [10]) (by kernel_rfl) (by simp) (AllReadyH.cons rfl (fun K hK => ?_) AllReadyH.nil)
  rw [if_pos (by rfl)]
  refine stW none rfl rfl hX3 rfl rfl (info_cell _) (by rw [CA_size, CA_size]) (CA_one _) fun W4 hX4 C4 => ?_
  refine hK.out _ _ (ab_chg hHeld C4 hs3) (fun hHeld => ?_)
  clear hK K
  refine takeH (i := 11) (some 7) rfl rfl (by kernel_rfl) (by kernel_rfl) (by kernel_rfl) (fun _ _ _ h => h) (by rfl) (fun w hSw => by (try dsimp only at hSw); go_simp; try rfl) hHeld ?_
  go_frame
  refine wpAnyH_done (by kernel_rfl) ?_ _
  have hR4 := hR1.keep hHeld
  have hz4 : A1.heap.size ≠ W1.heap.size := by omega
  have hw4 := ab_trans hw hHeld
  go_wp2_with (first
    | (refine ld_cell rfl rfl hX4 rfl ?_)
    | (refine st_cell rfl rfl hR4 rfl rfl ?_; intro W5 hR5 C5))
  refine bodyPost_ret (results_c2 rfl _ _ _ 54 _ (0, 0) _ _ rfl rfl hR5 Try.underlying54 rfl (info_cell _)) rfl ⟨rfl, ab_chg hw4 C5 (by omega)⟩
end Go.Proofs.Ytoeilckeebojmaa
namespace Go.Proofs.Ytoeilckeebojmaa
open Go.RowKit Go.Maps
set_option linter.unusedVariables false
set_option maxRecDepth 100000

theorem misB_snoc {S : Bsn} {l : List Kyy} {j : Nat} {o : Kyy} (ho : l[j]? = some o) : misB S (l.take (j + 1)) = misB S (l.take j) + if o ∈ S.ks then 0 else 1 := by
  unfold misB
  rw [List.take_add_one, ho, List.filter_append, List.length_append]
  congr 1
  simp only [Option.toList_some, List.filter_cons, List.filter_nil]
  by_cases e : o ∈ S.ks <;> simp [e]
theorem misB_le (S : Bsn) (l : List Kyy) : misB S l ≤ l.length := List.length_filter_le _ _
set_option maxHeartbeats 1000000 in
theorem bamiss_any {B : Nat} {K : Bkk} {S : Bsn} (v : Value) (l : List Kyy) (w : World) (h : Bq w B K S) (hv : ER E3k w v l) (hl : l.length ≤ 1000) (hk : ∀ k ∈ l, KyOk k) :
    Calls Try.prog 64 #[bptr K, v] w fun e w' => e = .returned (.int .i64 ((misB S l : Nat) : Int)) ∧ Below w.heap.size w w' := by
  have HL : Hid (∀ V k, KyOk k → Below w.heap.size w V → (Instr.lookup 91 (.map (some K.m)) (kyV k) true).run Try.prog V = .ok (.tuple #[.agg (CA (S.cv k)), .bool (decide (k ∈ S.ks))]) V) := fun V k hk hb => (h.ce.keep hb).look hk (h.ok.cz k) true
  have HC : Hid (∀ V, Below w.heap.size w V → V.cell? ⟨K.b, 5, none⟩ = some (.map (some K.m))) := fun V hb => (h.cells V hb).2.2.2.2.2
  clear h
  obtain ⟨q, cap, g, off, rfl, hc, hm, hp, hr⟩ := hv.at
  obtain ⟨b, m, gf, cf, gb, cb, vr⟩ := K
  try dsimp only at *
  generalize hn : l.length = n at *
  go_enter Try.func64, Try.ntmps64
  go_wp2_with fail
  go_loopw [5, 12] (fun x i wr => ∃ k : Nat, k ≤ n ∧ i = .int .i64 (k : Int) ∧ x = .int .i64 ((misB S (l.take k) : Nat) : Int) ∧ Below w.heap.size w wr) (fun _ i _ => n - (intOf i).toNat)
  case atStart => exact ⟨0, by omega, rfl, rfl, Below.refl _ _⟩
  case round =>
    obtain ⟨k, hk', rfl, rfl, hw⟩ := hrel
    by_cases c : k = n
    · subst c
      have HV : Hid (misB S (l.take k) = misB S l) := by show _ = _; rw [List.take_of_length_le (by omega)]
      rw [HV.out]
      clear hr
      go_wp2_with fail
      go_ret
      exact ⟨rfl, hw⟩
    · obtain ⟨o, ho⟩ : ∃ o, l[k]? = some o := ⟨l[k], List.getElem?_eq_getElem (by omega)⟩
      obtain ⟨rfl, hgk⟩ := hp (by omega)
      have z0 := keep_cell hw (hr k o ho 0 _ rfl) hgk
      have z1 := keep_cell hw (hr k o ho 1 _ rfl) hgk
      have z2 := keep_cell hw (hr k o ho 2 _ rfl) hgk
      rw [Nat.add_zero, show E3k.k = 3 from rfl] at z0
      rw [show E3k.k = 3 from rfl] at z1 z2
      have hki : (k : Int) < (n : Int) := by omega
      have hko := hk o (List.mem_of_getElem? ho)
      have hml := misB_le S (l.take k)
      rw [List.length_take] at hml
      have HM : Hid (misB S (l.take (k + 1)) = misB S (l.take k) + if o ∈ S.ks then 0 else 1) := misB_snoc ho
      generalize misB S (l.take k) = mi at *
      obtain ⟨oa, ob, oc⟩ := o
      try dsimp only at z0 z1 z2
      obtain ⟨A, hE, hX, hwA⟩ := blk1 wr #[.int .i64 oa, .int .i64 ob, .int .i64 oc] 47
      have hwW := ab_trans hw hwA
      clear hr ho
      go_upto_region 5 with fail
      have hcv : ∀ V, Below A.heap.size A V → (Instr.lookup 91 (.map (some m)) (.agg #[.int .i64 oa, .int .i64 ob, .int .i64 oc]) true).run Try.prog V = .ok (.tuple #[.agg (CA (S.cv (oa, ob, oc))), .bool (decide ((oa, ob, oc) ∈ S.ks))]) V := fun V hb => HL.out V (oa, ob, oc) hko (ab_trans hwW hb)
      generalize S.cv (oa, ob, oc) = cc at *
      clear hE z0 z1 z2
      refine wp_region_held_drew (S := fun w' => Below A.heap.size A w') (by kernel_rfl) (ab_drew (Below.refl _ _)) (fun hHeld => ?_)
      refine takeH (i := 0) (some 17) rfl rfl (by kernel_rfl) (by kernel_rfl) (by kernel_rfl) (fun _ _ _ h => h) (by rfl) (fun w hSw => by (try dsimp only at hSw); go_simp; try rfl) hHeld ?_
      go_frame
      refine takeH (i := 1) (some 18) rfl rfl (by kernel_rfl) (by kernel_rfl) (by kernel_rfl) (fun _ _ _ h => h) (by rfl) (fun w hSw => by (try dsimp only at hSw); go_simp; try rfl) hHeld ?_
      go_frame
      refine takeH (i := 2) (some 19) rfl rfl (by kernel_rfl) (by kernel_rfl) (by kernel_rfl) (fun _ _ _ h => h) (by rfl) (fun w hSw => by (try dsimp only at hSw); go_simp; try rfl) hHeld ?_
      go_frame
      refine takeH (i := 3) (some 20) rfl rfl (by kernel_rfl) (by kernel_rfl) (by kernel_rfl) (fun _ _ _ h => h) (by rfl) (fun w hSw => by (try dsimp only at hSw); (have q5 := HC.out _ (ab_trans hwW hSw); go_simp; try rfl)) hHeld ?_
      go_frame
      refine takeH (i := 4) (some 21) rfl rfl (by kernel_rfl) (by kernel_rfl) (by kernel_rfl) (fun _ _ _ h => h) (by rfl) (fun w hSw => by (try dsimp only at hSw); (obtain ⟨q0, q1, q2⟩ := ld_ky (k := (oa, ob, oc)) (hX.keep hSw); dsimp only at q0 q1 q2; go_simp; try rfl)) hHeld ?_
      go_frame
      refine takeH (i := 5) (some 22) rfl rfl (by kernel_rfl) (by kernel_rfl) (by kernel_rfl) (fun _ _ _ h => h) (by rfl) (fun w hSw => by (try dsimp only at hSw); exact lkW rfl rfl rfl (hcv _ hSw)) hHeld ?_
      go_frame
      refine takeH (i := 6) (some 16) rfl rfl (by kernel_rfl) (by kernel_rfl) (by kernel_rfl) (fun _ _ _ h => h) (by rfl) (fun w hSw => by (try dsimp only at hSw); go_simp; try rfl) hHeld ?_
      go_frame
      refine takeH (i := 7) (some 23) rfl rfl (by kernel_rfl) (by kernel_rfl) (by kernel_rfl) (fun _ _ _ h => h) (by rfl) (fun w hSw => by (try dsimp only at hSw); go_simp; try rfl) hHeld ?_
      go_frame
      refine takeH (i := 8) (some 24) rfl rfl (by kernel_rfl) (by kernel_rfl) (by kernel_rfl) (fun _ _ _ h => h) (by rfl) (fun w hSw => by (try dsimp only at hSw); go_simp; try rfl) hHeld ?_
      go_frame
      refine wpAnyH_ready (rs := [9]) (by kernel_rfl) (by simp) (AllReadyH.cons rfl (fun K hK => ?_) AllReadyH.nil)
      rw [if_pos (by rfl)]
      refine alW (some 8) rfl rfl (CA zc) (zero_cell _) fun W3 hX3 b3 => ?_
      have hs3 := hHeld.size
      refine hK.out _ _ (ab_trans hHeld b3) (fun hHeld => ?_)
      clear hK K
      go_frame
      refine wpAnyH_ready (rs := [10]) (by kernel_rfl) (by simp) (AllReadyH.cons rfl (fun K hK => ?_) AllReadyH.nil)
      rw [if_pos (by rfl)]
      refine stW none rfl rfl hX3 rfl rfl (info_cell _) (by rw [CA_size, CA_size]) (CA_one _) fun W4 hX4 C4 => ?_
      refine hK.out _ _ (ab_chg hHeld C4 hs3) (fun hHeld => ?_)
      clear hK K
      refine takeH (i := 11) (some 9) rfl rfl (by kernel_rfl) (by kernel_rfl) (by kernel_rfl) (fun _ _ _ h => h) (by rfl) (fun w hSw => by (try dsimp only at hSw); go_simp; try rfl) hHeld ?_
      go_frame
      refine wpAnyH_done (by kernel_rfl) ?_ _
      have hw4 := ab_trans hwW hHeld
      clear hcv hX3 hX4 C4 b3 hs3 hHeld
      by_cases e : (oa, ob, oc) ∈ S.ks
      · have HM' : Hid (misB S (l.take (k + 1)) = mi) := by show _ = _; rw [HM.out, if_pos e, Nat.add_zero]
        rw [decide_eq_true e]
        go_wp2_with fail
        go_roundw
        case rel => exact ⟨k + 1, by omega, by go_num, by rw [HM'.out], hw4⟩
        case measure => simp [intOf]; omega
      · have HM' : Hid (misB S (l.take (k + 1)) = mi + 1) := by show _ = _; rw [HM.out, if_neg e]
        rw [decide_eq_false e]
        go_wp2_with fail
        go_roundw
        case rel => exact ⟨k + 1, by omega, by go_num, by rw [HM'.out]; go_num, hw4⟩
        case measure => simp [intOf]; omega
/-- One cell of one of them stored. -/
theorem Rw.setc {α : Type} {E : En α} {e : TypeId} {W : World} {g cap i : Nat} {L : List α} {c c' : α} {j : Nat} {v : Value} (h : Rw E e W g cap L) (hi : L[i]? = some c) (hj : j < E.k) (hc : E.f c' = (E.f c).set j v) : Rw E e (W.setCell ⟨g, i * E.k + j, none⟩ v) g cap (L.set i c') := by
  obtain ⟨h1, h2, cur, hB, hs, ht⟩ := h
  obtain ⟨hlt, hge⟩ := List.getElem?_eq_some_iff.1 hi
  refine ⟨by rw [List.length_set]; exact h1, h2, _, hB.set _ _, by simpa using hs, ?_⟩
  have hA : (E.fl (L.take i)).length = i * E.k := by rw [E.fl_len, List.length_take, Nat.min_eq_left (by omega)]
  have e1 : E.fl L = E.fl (L.take i) ++ (E.f c ++ E.fl (L.drop (i + 1))) := by
    rw [← E.fl_cons, ← E.fl_append]
    congr 1
    conv => lhs; rw [← List.take_append_drop i L]
    rw [List.drop_eq_getElem_cons hlt, hge]
  rw [List.length_set, Array.toList_setIfInBounds, List.take_set, ht, e1, List.set_append_right _ _ (by omega), hA, Nat.add_sub_cancel_left, List.set_append_left _ _ (by rw [E.len]; exact hj), ← hc, ← E.fl_cons, ← E.fl_append]
  congr 1
  rw [List.set_eq_take_append_cons_drop, if_pos hlt]
theorem Rw.chgc {α : Type} {E : En α} {e : TypeId} {W : World} {g cap : Nat} {L : List α} (h : Rw E e W g cap L) (o : Nat) : W.frozen? ⟨g, o, none⟩ = false := by
  obtain ⟨h1, h2, cur, hB, hs, ht⟩ := h
  exact hB.frozen o
theorem bapunc_any {i g cap : Nat} {L : List Flw} {f : Flw} (t : Int) (w : World) (h : Rw E3f 89 w g cap L) (hi : L[i]? = some f) :
    Calls Try.prog 53 #[.pointer (some ⟨g, i * 3, none⟩), .int .i64 t] w fun e w' => e = .returned (.tuple #[]) ∧ Rw E3f 89 w' g cap (L.set i (pncF f t)) ∧ Chg g w w' := by
  have z1 : w.cell? ⟨g, i * 3 + 1, none⟩ = some (.int .i64 f.mt) := h.cell (i := 1) hi rfl
  have z2 : w.cell? ⟨g, i * 3 + 2, none⟩ = some (.bool f.md) := h.cell (i := 2) hi rfl
  have f1 := h.chgc (i * 3 + 1)
  have f2 := h.chgc (i * 3 + 2)
  have HY : Hid (Rw E3f 89 ((w.setCell ⟨g, i * 3 + 1, none⟩ (.int .i64 t)).setCell ⟨g, i * 3 + 2, none⟩ (.bool true)) g cap (L.set i { f with mt := t, md := true })) := by
    have hlt := (List.getElem?_eq_some_iff.1 hi).1
    have s1 := h.setc (c' := { f with mt := t }) (j := 1) (v := .int .i64 t) hi (by show 1 < 3; omega) rfl
    have s2 := s1.setc (i := i) (c := { f with mt := t }) (c' := { f with mt := t, md := true }) (j := 2) (v := .bool true) (List.getElem?_set_self hlt) (by show 2 < 3; omega) rfl
    rw [List.set_set] at s2
    exact s2
  have HC : Hid (Chg g w ((w.setCell ⟨g, i * 3 + 1, none⟩ (.int .i64 t)).setCell ⟨g, i * 3 + 2, none⟩ (.bool true))) := (chg_set _ _ _ _).trans (chg_set _ _ _ _)
  have HN : Hid (Rw E3f 89 w g cap (L.set i f)) := by show Rw _ _ _ _ _ _; rw [set_same hi]; exact h
  clear h hi
  obtain ⟨nx, mt, md⟩ := f
  try dsimp only at *
  cases md
  · have HF : Hid (pncF ⟨nx, mt, false⟩ t = ⟨nx, t, true⟩) := by show _ = _; unfold pncF; rw [if_pos (.inl rfl)]
    rw [HF.out]
    go_enter Try.func53, Try.ntmps53
    go_wp2_with fail
    exact bodyPost_end (results_none rfl _ _ _) rfl ⟨rfl, HY.out, HC.out⟩
  · by_cases c : mt < t
    · have HF : Hid (pncF ⟨nx, mt, true⟩ t = ⟨nx, t, true⟩) := by show _ = _; unfold pncF; rw [if_pos (.inr c)]
      rw [HF.out]
      go_enter Try.func53, Try.ntmps53
      go_wp2_with fail
      exact bodyPost_end (results_none rfl _ _ _) rfl ⟨rfl, HY.out, HC.out⟩
    · have HF : Hid (pncF ⟨nx, mt, true⟩ t = ⟨nx, mt, true⟩) := by show _ = _; unfold pncF; rw [if_neg (by rintro (e | e); exact Bool.noConfusion e; exact c e)]
      rw [HF.out]
      go_enter Try.func53, Try.ntmps53
      go_wp2_with fail
      exact bodyPost_end (results_none rfl _ _ _) rfl ⟨rfl, HN.out, Chg.refl _ _⟩
end Go.Proofs.Ytoeilckeebojmaa
