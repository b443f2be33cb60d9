/-
  Basin's take.
  Basin's inForm and Raise.
  Basin's Raise and Feed.
  Plain mathematics: a sample is taken with all its cells, or not at all.
  Plain mathematics: a basin's cells are what the samples that it took come to.
  slices.Repeat of one flow; basin.New.
-/
import Derived.Test.YtoeilckeebojmaaPk47
import Derived.Test.YtoeilckeebojmaaPk45
import Derived.Test.YtoeilckeebojmaaPk35
import Derived.Test.YtoeilckeebojmaaPk28
import Derived.Test.YtoeilckeebojmaaPk25
import Derived.Test.YtoeilckeebojmaaPk29
import Derived.Test.YtoeilckeebojmaaPk24
namespace Go.Proofs.Ytoeilckeebojmaa
open Go.RowKit Go.Maps
set_option linter.unusedVariables false
set_option maxRecDepth 100000

def tkE (r : Bsn × Option Int) : Nat := match r.2 with | some _ => 7 | none => 0
def tkN (la : Int) (r : Bsn × Option Int) : Int := match r.2 with | some s => s | none => wrap64 (la + 1)
theorem pncB_at {S : Bsn} {i : Nat} {f : Flw} (t : Int) (h : S.fl[i]? = some f) : pncB S i t = { S with fl := S.fl.set i (pncF f t) } := by unfold pncB; rw [h]
theorem nxtB_at {S : Bsn} {i : Nat} {f : Flw} (n : Int) (h : S.fl[i]? = some f) : nxtB S i n = { S with fl := S.fl.set i { f with nx := n } } := by unfold nxtB; rw [h]
theorem pou_fl (S : Bsn) (src : Int) (o : Op5) : (pouB S src o).fl = S.fl := (fold_same _ _ _).2.2.2.1
theorem stp_mark {i : Nat} {S : Bsn} {o : Op5} (h : o.k = 2) : stpB i (S, none) o = (pncB S i o.t, none) := by unfold stpB; simp [h]
theorem stp_pour {i : Nat} {S : Bsn} {o : Op5} (h : o.k ≠ 2) (hr : rooB S o = true) : stpB i (S, none) o = (pouB S (i : Int) o, none) := by unfold stpB; simp [h, hr]
theorem stp_full {i : Nat} {S : Bsn} {o : Op5} (h : o.k ≠ 2) (hr : rooB S o = false) : stpB i (S, none) o = (S, some o.s) := by unfold stpB; simp [h, hr]
theorem tak_snoc {i : Nat} {S T : Bsn} {ops : List Op5} {k : Nat} {o : Op5} (h : takB S i (ops.take k) = (T, none)) (ho : ops[k]? = some o) : takB S i (ops.take (k + 1)) = stpB i (T, none) o := by
  unfold takB at *
  rw [List.take_add_one, ho]
  simp only [Option.toList_some, List.foldl_append, List.foldl_cons, List.foldl_nil, h]
theorem tak_full {i : Nat} {S T : Bsn} {ops : List Op5} {k : Nat} {s : Int} (h : takB S i (ops.take (k + 1)) = (T, some s)) : takB S i ops = (T, some s) := by
  unfold takB at *
  rw [← List.take_append_drop (k + 1) ops, List.foldl_append, h]
  exact stp_stuck i s _ _
theorem src_J {S : Bsn} (h : Okb S) {i : Nat} (hi : i < S.fl.length) : J64 (i : Int) := by have := h.f1; unfold J64; omega
/-- The next number stored. -/
theorem Bq.setnx {w W : World} {B : Nat} {K : Bkk} {T : Bsn} {i : Nat} {f : Flw} (hB : Bq W B K T) (hF : Frm (bkB K) w W) (hfi : T.fl[i]? = some f) {nx : Int} (hnJ : J64 nx) :
    Bq (W.setCell ⟨K.gf, i * 3, none⟩ (.int .i64 nx)) B K (nxtB T i nx) ∧ Frm (bkB K) w (W.setCell ⟨K.gf, i * 3, none⟩ (.int .i64 nx)) := by
  have hC : Chg K.gf W (W.setCell ⟨K.gf, i * 3, none⟩ (.int .i64 nx)) := chg_set _ _ _ _
  have hFC : Frm (bkB K) W (W.setCell ⟨K.gf, i * 3, none⟩ (.int .i64 nx)) := frm_chg hC (.inl rfl)
  have hok := okb_nxt hB.ok (i := i) hnJ
  have hs := hB.fe.setc (c' := { f with nx := nx }) (j := 0) (v := .int .i64 nx) hfi (by show 0 < 3; omega) rfl
  rw [Nat.add_zero] at hs
  rw [nxtB_at nx hfi] at hok ⊢
  exact ⟨hB.upd hFC rfl rfl rfl (by simp) rfl hs (rw_at hB.be (hC.other _ hB.nfb.symm)) (hB.ce.at (hC.other _ hB.nfm.symm)) hok, hF.trans hFC⟩
set_option maxHeartbeats 4000000 in
theorem batake_any {B : Nat} {K : Bkk} {S : Bsn} (i : Nat) (la : Int) (vo : Value) (ops : List Op5) (w : World) (h : Bq w B K S) (hi : i < S.fl.length) (hO : ∀ V, Frm (bkB K) w V → ER E5 V vo ops) (hf : ∀ o ∈ ops, Fit5 o) (hla : J64 la) :
    Calls Try.prog 37 #[bptr K, .int .i64 (i : Int), .int .i64 la, vo] w fun e w' => e = .returned (errV (tkE (takB S i ops))) ∧ Bq w' B K (nxtB (takB S i ops).1 i (tkN la (takB S i ops))) ∧ Frm (bkB K) w w' := by
  obtain ⟨-, -, -, c3, -, -⟩ := h.cells w (Below.refl _ _)
  obtain ⟨q, cap, hvo⟩ := (hO w (Frm.refl _ _)).form
  have HO : Hid (∀ V, Frm (bkB K) w V → ER E5 V (.slice q ops.length cap) ops) := fun V hb => by rw [← hvo]; exact hO V hb
  rw [hvo]
  clear hvo hO
  have HB : Hid (Bq w B K S) := h
  have HI : Hid (J64 (i : Int)) := src_J h.ok hi
  have hli : (i : Int) < (S.fl.length : Int) := by omega
  clear h
  generalize hnf : S.fl.length = nf at *
  generalize hn : ops.length = n at *
  have hcap : Hid (n ≤ cap ∧ cap ≤ 9223372036854775807) := by
    obtain ⟨q', cap', g, off, e, h1, h2, -⟩ := HO.out w (Frm.refl _ _)
    injection e with _ e1 e2
    subst e2
    rw [hn] at h1
    exact ⟨h1, h2⟩
  have hn63 : (n : Int) ≤ 9223372036854775807 := by have := hcap.out; omega
  obtain ⟨b, m, gf, cf, gb, cb, vr⟩ := K
  try dsimp only at *
  have HF0 : Hid (Frm (bkB ⟨b, m, gf, cf, gb, cb, vr⟩) w w) := Frm.refl _ _
  go_enter Try.func37, Try.ntmps37
  go_wp2_with fail
  go_step3
  go_wp2_with fail
  go_step3
  go_wp2_with fail
  have HNX : Hid (∃ x, wrap64 (la + 1) = x ∧ J64 x) := ⟨_, rfl, by unfold J64 wrap64; omega⟩
  obtain ⟨nx, hnx, hnJ⟩ := HNX.out
  rw [hnx]
  have HX : Hid (wrap64 (la + 1) = nx) := hnx
  clear HNX hnx hla
  go_loopw [10, 11, 24] (fun x y z wr => ∃ (k : Nat) (T : Bsn), k ≤ n ∧ z = .int .i64 (k : Int) ∧ x = .int .i64 nx ∧ y = .nilIface ∧ takB S i (ops.take k) = (T, none) ∧ T.fl.length = nf ∧ Bq wr B ⟨b, m, gf, cf, gb, cb, vr⟩ T ∧ Frm (bkB ⟨b, m, gf, cf, gb, cb, vr⟩) w wr) (fun _ _ z _ => n - (intOf z).toNat)
  case atStart => exact ⟨0, S, by omega, rfl, rfl, rfl, rfl, hnf, HB.out, HF0.out⟩
  case round =>
    obtain ⟨k, T, hk, rfl, rfl, rfl, hT, hTl, hB, hF⟩ := hrel
    clear c3 HB HF0
    have HT : Hid (takB S i (ops.take k) = (T, none)) := hT
    clear hT
    obtain ⟨f, hfi⟩ : ∃ f, T.fl[i]? = some f := ⟨T.fl[i]'(by omega), List.getElem?_eq_getElem (by omega)⟩
    by_cases hkn : k = n
    · subst hkn
      have HE : Hid (takB S i ops = (T, none)) := by have := HT.out; rw [List.take_of_length_le (by omega)] at this; exact this
      have fz : wr.frozen? ⟨gf, i * 3, none⟩ = false := hB.fe.chgc (i * 3)
      have cz : wr.cell? ⟨gf, i * 3, none⟩ = some (.int .i64 f.nx) := hB.fe.cell (i := 0) hfi rfl
      have HQ : Hid (Bq (wr.setCell ⟨gf, i * 3, none⟩ (.int .i64 nx)) B ⟨b, m, gf, cf, gb, cb, vr⟩ (nxtB T i nx) ∧ Frm (bkB ⟨b, m, gf, cf, gb, cb, vr⟩) w (wr.setCell ⟨gf, i * 3, none⟩ (.int .i64 nx))) := by
        exact hB.setnx hF hfi hnJ
      clear hB hF hfi
      go_wp2_with fail
      try rw [Exit.noGoto_ret]
      go_ret
      exact ⟨by rw [HE.out]; rfl, by rw [HE.out]; show Bq _ _ _ (nxtB T i (wrap64 (la + 1))); rw [HX.out]; exact HQ.out.1, HQ.out.2⟩
    · have hlt : k < ops.length := by omega
      obtain ⟨o, ho⟩ : ∃ o, ops[k]? = some o := ⟨ops[k], List.getElem?_eq_getElem hlt⟩
      have hki : (k : Int) < (n : Int) := by omega
      have HS : Hid (takB S i (ops.take (k + 1)) = stpB i (T, none) o) := tak_snoc HT.out ho
      have hfo : Fit5 o := hf o (List.mem_of_getElem? ho)
      obtain ⟨q', cap', g, off, eq', -, -, hp, hr⟩ := (HO.out wr hF).at
      rw [hn] at eq'
      injection eq' with e1 _ e3
      subst e1
      subst e3
      rw [hn] at hp
      obtain ⟨rfl, hgk⟩ := hp (by omega)
      have z0 := hr k o ho 0 _ rfl
      have z1 := hr k o ho 1 _ rfl
      have z2 := hr k o ho 2 _ rfl
      have z3 := hr k o ho 3 _ rfl
      have z4 := hr k o ho 4 _ rfl
      rw [Nat.add_zero, show E5.k = 5 from rfl] at z0
      rw [show E5.k = 5 from rfl] at z1 z2 z3 z4
      obtain ⟨A, hE, hX, hw⟩ := blk1 wr (opA o) 27
      have y0 : A.cell? ⟨wr.heap.size, 0, none⟩ = some (.int .i64 o.s) := hX.at rfl
      have y1 : A.cell? ⟨wr.heap.size, 1, none⟩ = some (.int .i64 o.k) := hX.at rfl
      have y2 : A.cell? ⟨wr.heap.size, 2, none⟩ = some (.int .i64 o.t) := hX.at rfl
      have y3 : A.cell? ⟨wr.heap.size, 3, none⟩ = some (.int .i64 o.y) := hX.at rfl
      have y4 : A.cell? ⟨wr.heap.size, 4, none⟩ = some (.int .i64 o.v) := hX.at rfl
      have hBA := hB.keep hw
      have hFA := hF.trans (frm_below hw)
      unfold opA at hE
      have HML : Hid (m < wr.heap.size) := hB.ce.lt
      clear hr hp ho HT hlt hF hB
      by_cases hm : o.k = 2
      · have HP := bapunc_any o.t A hBA.fe hfi
        have HS' : Hid (takB S i (ops.take (k + 1)) = (pncB T i o.t, none)) := by show _ = _; rw [HS.out, stp_mark hm]
        have hk2 : (o.k == 2) = true := by simp [hm]
        have HL : Hid ((pncB T i o.t).fl.length = nf) := by show _ = _; rw [pncB_at _ hfi]; simp [hTl]
        clear hm HS
        go_wp2_with (go_at_call 53; refine HP.mono ?_; rintro e W2 ⟨rfl, hR2, C2⟩)
        have hFC : Frm (bkB ⟨b, m, gf, cf, gb, cb, vr⟩) A W2 := frm_chg C2 (.inl rfl)
        have hok := okb_pnc hBA.ok (i := i) hfo.t
        have hB2 : Bq W2 B ⟨b, m, gf, cf, gb, cb, vr⟩ (pncB T i o.t) := by
          rw [pncB_at _ hfi] at hok ⊢
          exact hBA.upd hFC rfl rfl rfl (by simp) rfl hR2 (rw_at hBA.be (C2.other _ hBA.nfb.symm)) (hBA.ce.at (C2.other _ hBA.nfm.symm)) hok
        go_roundw
        case rel => exact ⟨k + 1, _, by omega, by go_num, rfl, rfl, HS'.out, HL.out, hB2, hFA.trans hFC⟩
        case measure => simp [intOf]; omega
      · have HP := bapour_any (i : Int) o A hBA hfo HI.out
        have hk2 : (o.k == 2) = false := by simp [hm]
        unfold opV opA at HP
        cases hro : rooB T o
        · have HS' : Hid (takB S i ops = (T, some o.s)) := by
            have := HS.out
            rw [stp_full hm hro] at this
            exact tak_full this
          rw [hro] at HP
          have HPS : Hid (pouS T (i : Int) o = T) := pouS_no hro
          clear HS hm hro
          have hml : wr.heap.size ≠ m := by have := hBA.ce.lt; have hz := HML.out; omega
          go_upto_region 11 with (go_at_call 54; refine HP.mono ?_; rintro e W2 ⟨rfl, hB2, hF2⟩; have g0 : W2.cell? ⟨wr.heap.size, 0, none⟩ = some (.int .i64 o.s) := (hX.frm hF2 hml).at rfl)
          rw [HPS.out] at hB2
          have hFF := hFA.trans (hF2.mono fun k hk => .inr (.inr hk))
          have fz : W2.frozen? ⟨gf, i * 3, none⟩ = false := hB2.fe.chgc (i * 3)
          have cz : W2.cell? ⟨gf, i * 3, none⟩ = some (.int .i64 f.nx) := hB2.fe.cell (i := 0) hfi rfl
          have HQ : Hid (Bq (W2.setCell ⟨gf, i * 3, none⟩ (.int .i64 o.s)) B ⟨b, m, gf, cf, gb, cb, vr⟩ (nxtB T i o.s) ∧ Frm (bkB ⟨b, m, gf, cf, gb, cb, vr⟩) w (W2.setCell ⟨gf, i * 3, none⟩ (.int .i64 o.s))) := hB2.setnx hFF hfi hfo.s
          clear hB2 hFF hF2 hfi hBA hFA hX hE
          go_wp2_with fail
          try rw [Exit.noGoto_ret]
          go_ret
          exact ⟨by rw [HS'.out]; rfl, by rw [HS'.out]; exact HQ.out.1, HQ.out.2⟩
        · have HS' : Hid (takB S i (ops.take (k + 1)) = (pouB T (i : Int) o, none)) := by show _ = _; rw [HS.out, stp_pour hm hro]
          rw [hro] at HP
          have HPS : Hid (pouS T (i : Int) o = pouB T (i : Int) o) := pouS_yes hro
          have HL : Hid ((pouB T (i : Int) o).fl.length = nf) := by show _ = _; rw [pou_fl]; exact hTl
          clear HS hm hro
          go_wp2_with (go_at_call 54; refine HP.mono ?_; rintro e W2 ⟨rfl, hB2, hF2⟩)
          rw [HPS.out] at hB2
          have hFF := hFA.trans (hF2.mono fun k hk => .inr (.inr hk))
          go_roundw
          case rel => exact ⟨k + 1, _, by omega, by go_num, rfl, rfl, HS'.out, HL.out, hB2, hFF⟩
          case measure => simp [intOf]; omega
end Go.Proofs.Ytoeilckeebojmaa
namespace Go.Proofs.Ytoeilckeebojmaa
open Go.RowKit Go.Maps
set_option linter.unusedVariables false
set_option maxRecDepth 100000

/-- What an operation must be behind others. -/
structure InK (ops : List Op5) (fr la : Int) (k : Nat) (o : Op5) : Prop where
  kd : o.k = 1 ∨ o.k = 2
  lo : fr ≤ o.s
  hi : o.s ≤ la
  up : ∀ p, 0 < k → ops[k - 1]? = some p → p.s < o.s
theorem info_snoc {ops : List Op5} {fr la : Int} {k : Nat} {o : Op5} (h : infO (ops.take k) fr la) (ho : ops[k]? = some o) (hk : InK ops fr la k o) : infO (ops.take (k + 1)) fr la := by
  rw [List.take_add_one, ho]
  refine ⟨fun x hx => ?_, ?_⟩
  · rcases List.mem_append.1 hx with hx | hx
    · exact h.1 x hx
    · simp at hx; subst hx; exact ⟨hk.kd, hk.lo, hk.hi⟩
  · refine List.pairwise_append.2 ⟨h.2, by simp, fun x hx y hy => ?_⟩
    simp at hy
    subst hy
    obtain ⟨j, hj⟩ := List.mem_iff_getElem?.1 hx
    have hjk : j < k := by
      have := (List.getElem?_eq_some_iff.1 hj).1
      rw [List.length_take] at this
      omega
    have hlt := (List.getElem?_eq_some_iff.1 ho).1
    rw [List.getElem?_take_of_lt hjk] at hj
    obtain ⟨p, hp⟩ : ∃ p, ops[k - 1]? = some p := ⟨ops[k - 1]'(by omega), List.getElem?_eq_getElem (by omega)⟩
    have h1 := hk.up p (by omega) hp
    by_cases e : j = k - 1
    · subst e
      rw [hp] at hj
      cases hj
      exact h1
    · have h2 := List.pairwise_iff_getElem.1 h.2 j (k - 1) (by rw [List.length_take]; omega) (by rw [List.length_take]; omega) (by omega)
      have e1 : (ops.take k)[j]'(by rw [List.length_take]; omega) = x := by
        rw [List.getElem_take]
        exact (List.getElem?_eq_some_iff.1 hj).2
      have e2 : (ops.take k)[k - 1]'(by rw [List.length_take]; omega) = p := by
        rw [List.getElem_take]
        exact (List.getElem?_eq_some_iff.1 hp).2
      rw [e1, e2] at h2
      omega
theorem info_at {ops : List Op5} {fr la : Int} (h : infO ops fr la) {k : Nat} {o : Op5} (ho : ops[k]? = some o) : InK ops fr la k o := by
  have h1 := h.1 o (List.mem_of_getElem? ho)
  refine ⟨h1.1, h1.2.1, h1.2.2, fun p hk hp => ?_⟩
  obtain ⟨l1, e1⟩ := List.getElem?_eq_some_iff.1 ho
  obtain ⟨l2, e2⟩ := List.getElem?_eq_some_iff.1 hp
  have := List.pairwise_iff_getElem.1 h.2 (k - 1) k l2 l1 (by omega)
  rw [e1, e2] at this
  exact this
/-- What inForm answers. -/
def InfE (e : Ending) (ops : List Op5) (fr la : Int) : Prop := ∃ x : Bool, e = .returned (.bool x) ∧ (x = true ↔ infO ops fr la)
theorem infE_no {ops : List Op5} {fr la : Int} (h : ¬ infO ops fr la) : InfE (.returned (.bool false)) ops fr la := ⟨false, rfl, ⟨fun h => (by cases h), fun h' => absurd h' h⟩⟩
theorem infE_yes {ops : List Op5} {fr la : Int} (h : infO ops fr la) : InfE (.returned (.bool true)) ops fr la := ⟨true, rfl, ⟨fun _ => h, fun _ => rfl⟩⟩
theorem ret_b {x y : Bool} (h : x = y) : Ending.returned (.bool x) = .returned (.bool y) := by rw [h]
set_option maxHeartbeats 4000000 in
theorem bainform_any (vo : Value) (ops : List Op5) (fr la : Int) (w : World) (hO : ER E5 w vo ops) :
    Calls Try.prog 34 #[vo, .int .i64 fr, .int .i64 la] w fun e w' => InfE e ops fr la ∧ Below w.heap.size w w' := by
  obtain ⟨q, cap, g, off, rfl, hc, hm, hp, hr⟩ := hO.at
  clear hO
  generalize hn : ops.length = n at *
  go_enter Try.func34, Try.ntmps34
  go_wp2_with fail
  go_loopw [11] (fun i wr => ∃ k : Nat, k ≤ n ∧ i = .int .i64 (k : Int) ∧ infO (ops.take k) fr la ∧ Below w.heap.size w wr) (fun i _ => n - (intOf i).toNat)
  case atStart => exact ⟨0, by omega, rfl, ⟨fun o ho => by simp at ho, by simp⟩, Below.refl _ _⟩
  case round =>
    obtain ⟨k, hk, rfl, hin, hw⟩ := hrel
    by_cases c : k = n
    · subst c
      rw [List.take_of_length_le (by omega)] at hin
      have HI : Hid (infO ops fr la) := hin
      clear hr hin
      go_wp2_with fail
      go_ret
      exact ⟨infE_yes HI.out, hw⟩
    · obtain ⟨o, ho⟩ : ∃ o, ops[k]? = some o := ⟨ops[k], List.getElem?_eq_getElem (by omega)⟩
      obtain ⟨rfl, hgk⟩ := hp (by omega)
      have hki : (k : Int) < (n : Int) := by omega
      have z0 := keep_cell hw (hr k o ho 0 _ rfl) hgk
      have z1 := keep_cell hw (hr k o ho 1 _ rfl) hgk
      have z2 := keep_cell hw (hr k o ho 2 _ rfl) hgk
      have z3 := keep_cell hw (hr k o ho 3 _ rfl) hgk
      have z4 := keep_cell hw (hr k o ho 4 _ rfl) hgk
      rw [Nat.add_zero, show E5.k = 5 from rfl] at z0
      rw [show E5.k = 5 from rfl] at z1 z2 z3 z4
      obtain ⟨A, hE, hX, hwA⟩ := blk1 wr (opA o) 27
      have hwW := ab_trans hw hwA
      have y0 : ∀ y : Cls A, y.val.cell? ⟨wr.heap.size, 0, none⟩ = some (.int .i64 o.s) := fun y => (hX.keep y.prop).at rfl
      have y1 : A.cell? ⟨wr.heap.size, 1, none⟩ = some (.int .i64 o.k) := hX.at rfl
      have HNo : Hid (¬ InK ops fr la k o → ¬ infO ops fr la) := fun h1 h2 => h1 (info_at h2 ho)
      have HYes : Hid (InK ops fr la k o → infO (ops.take (k + 1)) fr la) := fun h => info_snoc hin ho h
      have HP : Hid (∀ p, 0 < k → ops[k - 1]? = some p → ∀ y : Cls A, y.val.cell? ⟨g, off + (k - 1) * 5, none⟩ = some (.int .i64 p.s)) := fun p hk0 hp0 y => by
        have := hr (k - 1) p hp0 0 _ rfl
        rw [Nat.add_zero] at this
        exact keep_cell (ab_trans hwW y.prop) this hgk
      have HX : Hid (∀ y : Cls A, Below w.heap.size w y.val) := fun y => ab_trans hwW y.prop
      clear hin hr hp
      unfold opA at hE
      by_cases k1 : o.k = 1 ∨ o.k = 2
      · have k1' := k1
        rcases k1 with k1 | k1
        · have n1 : (o.k != 1) = false := by simp [k1]
          by_cases c1 : o.s < fr
          · skip
            have HF : Hid (¬ infO ops fr la) := HNo.out (fun h => absurd h.lo (by omega))
            clear HNo HYes k1
            go_upto_region 6 with fail
            have HZ := cls_some A
            refine wp_region_below (by kernel_rfl) (by kernel_rfl) ?_
            repeat (go_big_quiet_step (fail))
            refine wpQuiet_nil ?_
            rintro V ⟨y, rfl⟩
            have hwV := HX.out y
            go_wp2_with fail
            go_ret
            exact ⟨infE_no HF.out, hwV⟩
          by_cases c2 : la < o.s
          · skip
            have HF : Hid (¬ infO ops fr la) := HNo.out (fun h => absurd h.hi (by omega))
            clear HNo HYes k1
            go_upto_region 6 with fail
            have HZ := cls_some A
            refine wp_region_below (by kernel_rfl) (by kernel_rfl) ?_
            repeat (go_big_quiet_step (fail))
            refine wpQuiet_nil ?_
            rintro V ⟨y, rfl⟩
            have hwV := HX.out y
            go_wp2_with fail
            go_ret
            exact ⟨infE_no HF.out, hwV⟩
          by_cases c3 : k = 0
          · have c3' : Hid (decide (0 < k) = false) := decide_eq_false (by omega)
            have HF : Hid (infO (ops.take (k + 1)) fr la) := HYes.out ⟨k1', by omega, by omega, fun p h0 _ => absurd h0 (by omega)⟩
            clear HNo HYes k1 c3
            go_upto_region 6 with fail
            have HZ := cls_some A
            have c30 := c3'.out
            refine wp_region_below (by kernel_rfl) (by kernel_rfl) ?_
            repeat (go_big_quiet_step (fail))
            refine wpQuiet_nil ?_
            clear c30
            rintro V ⟨y, rfl⟩
            have hwV := HX.out y
            go_wp2_with fail
            go_roundw
            case rel => exact ⟨k + 1, by omega, by go_num, HF.out, hwV⟩
            case measure => simp [intOf]; omega
          obtain ⟨j, rfl⟩ : ∃ j, k = j + 1 := ⟨k - 1, by omega⟩
          obtain ⟨p, hp⟩ : ∃ p, ops[j]? = some p := ⟨ops[j]'(by omega), List.getElem?_eq_getElem (by omega)⟩
          have c3' : (0 : Int) < ((j + 1 : Nat) : Int) := by omega
          have hjn : (j : Int) < (n : Int) := by omega
          have p0 : ∀ y : Cls A, y.val.cell? ⟨g, off + j * 5, none⟩ = some (.int .i64 p.s) := HP.out p (by omega) (by rw [Nat.add_sub_cancel]; exact hp)
          have HPp : Hid (ops[j]? = some p) := hp
          clear hp HP c3
          by_cases c4 : o.s ≤ p.s
          · skip
            have HF : Hid (¬ infO ops fr la) := HNo.out (fun h => absurd (h.up p (by omega) (by rw [Nat.add_sub_cancel]; exact HPp.out)) (by omega))
            clear HNo HYes k1
            go_upto_region 6 with fail
            have HZ := cls_some A
            refine wp_region_below (by kernel_rfl) (by kernel_rfl) ?_
            repeat (go_big_quiet_step (fail))
            refine wpQuiet_nil ?_
            rintro V ⟨y, rfl⟩
            have hwV := HX.out y
            go_wp2_with fail
            go_ret
            exact ⟨infE_no HF.out, hwV⟩
          · skip
            have HF : Hid (infO (ops.take (j + 1 + 1)) fr la) := HYes.out ⟨k1', by omega, by omega, fun p' _ hp' => by rw [Nat.add_sub_cancel, HPp.out] at hp'; cases hp'; omega⟩
            clear HNo HYes k1
            go_upto_region 6 with fail
            have HZ := cls_some A
            refine wp_region_below (by kernel_rfl) (by kernel_rfl) ?_
            repeat (go_big_quiet_step (fail))
            refine wpQuiet_nil ?_
            rintro V ⟨y, rfl⟩
            have hwV := HX.out y
            go_wp2_with fail
            go_roundw
            case rel => exact ⟨j + 1 + 1, by omega, by go_num, HF.out, hwV⟩
            case measure => simp [intOf]; omega
        · have n1 : (o.k != 1) = true := by simp [k1]
          have n2 : (o.k != 2) = false := by simp [k1]
          by_cases c1 : o.s < fr
          · skip
            have HF : Hid (¬ infO ops fr la) := HNo.out (fun h => absurd h.lo (by omega))
            clear HNo HYes k1
            go_upto_region 6 with fail
            have HZ := cls_some A
            refine wp_region_below (by kernel_rfl) (by kernel_rfl) ?_
            repeat (go_big_quiet_step (fail))
            refine wpQuiet_nil ?_
            rintro V ⟨y, rfl⟩
            have hwV := HX.out y
            go_wp2_with fail
            go_ret
            exact ⟨infE_no HF.out, hwV⟩
          by_cases c2 : la < o.s
          · skip
            have HF : Hid (¬ infO ops fr la) := HNo.out (fun h => absurd h.hi (by omega))
            clear HNo HYes k1
            go_upto_region 6 with fail
            have HZ := cls_some A
            refine wp_region_below (by kernel_rfl) (by kernel_rfl) ?_
            repeat (go_big_quiet_step (fail))
            refine wpQuiet_nil ?_
            rintro V ⟨y, rfl⟩
            have hwV := HX.out y
            go_wp2_with fail
            go_ret
            exact ⟨infE_no HF.out, hwV⟩
          by_cases c3 : k = 0
          · have c3' : Hid (decide (0 < k) = false) := decide_eq_false (by omega)
            have HF : Hid (infO (ops.take (k + 1)) fr la) := HYes.out ⟨k1', by omega, by omega, fun p h0 _ => absurd h0 (by omega)⟩
            clear HNo HYes k1 c3
            go_upto_region 6 with fail
            have HZ := cls_some A
            have c30 := c3'.out
            refine wp_region_below (by kernel_rfl) (by kernel_rfl) ?_
            repeat (go_big_quiet_step (fail))
            refine wpQuiet_nil ?_
            clear c30
            rintro V ⟨y, rfl⟩
            have hwV := HX.out y
            go_wp2_with fail
            go_roundw
            case rel => exact ⟨k + 1, by omega, by go_num, HF.out, hwV⟩
            case measure => simp [intOf]; omega
          obtain ⟨j, rfl⟩ : ∃ j, k = j + 1 := ⟨k - 1, by omega⟩
          obtain ⟨p, hp⟩ : ∃ p, ops[j]? = some p := ⟨ops[j]'(by omega), List.getElem?_eq_getElem (by omega)⟩
          have c3' : (0 : Int) < ((j + 1 : Nat) : Int) := by omega
          have hjn : (j : Int) < (n : Int) := by omega
          have p0 : ∀ y : Cls A, y.val.cell? ⟨g, off + j * 5, none⟩ = some (.int .i64 p.s) := HP.out p (by omega) (by rw [Nat.add_sub_cancel]; exact hp)
          have HPp : Hid (ops[j]? = some p) := hp
          clear hp HP c3
          by_cases c4 : o.s ≤ p.s
          · skip
            have HF : Hid (¬ infO ops fr la) := HNo.out (fun h => absurd (h.up p (by omega) (by rw [Nat.add_sub_cancel]; exact HPp.out)) (by omega))
            clear HNo HYes k1
            go_upto_region 6 with fail
            have HZ := cls_some A
            refine wp_region_below (by kernel_rfl) (by kernel_rfl) ?_
            repeat (go_big_quiet_step (fail))
            refine wpQuiet_nil ?_
            rintro V ⟨y, rfl⟩
            have hwV := HX.out y
            go_wp2_with fail
            go_ret
            exact ⟨infE_no HF.out, hwV⟩
          · skip
            have HF : Hid (infO (ops.take (j + 1 + 1)) fr la) := HYes.out ⟨k1', by omega, by omega, fun p' _ hp' => by rw [Nat.add_sub_cancel, HPp.out] at hp'; cases hp'; omega⟩
            clear HNo HYes k1
            go_upto_region 6 with fail
            have HZ := cls_some A
            refine wp_region_below (by kernel_rfl) (by kernel_rfl) ?_
            repeat (go_big_quiet_step (fail))
            refine wpQuiet_nil ?_
            rintro V ⟨y, rfl⟩
            have hwV := HX.out y
            go_wp2_with fail
            go_roundw
            case rel => exact ⟨j + 1 + 1, by omega, by go_num, HF.out, hwV⟩
            case measure => simp [intOf]; omega
      · have n1 : (o.k != 1) = true := by simp; omega
        have n2 : (o.k != 2) = true := by simp; omega
        have HF : Hid (¬ infO ops fr la) := HNo.out (fun h => k1 h.kd)
        clear HNo HYes k1 HP HX
        go_wp2_with fail
        go_ret
        exact ⟨infE_no HF.out, hwW⟩
end Go.Proofs.Ytoeilckeebojmaa
namespace Go.Proofs.Ytoeilckeebojmaa
open Go.RowKit Go.Maps
set_option linter.unusedVariables false
set_option maxRecDepth 100000

theorem baraise_no {B : Nat} {K : Bkk} {S : Bsn} (n : Int) (p : Int × Int) (w : World) (h : Bq w B K S) (hn : hasN n S.ba.length = false) :
    Calls Try.prog 18 #[bptr K, .int .i64 n, Plc p.1 p.2] w fun e w' => e = .returned (.tuple #[.int .i64 0, Err 1]) ∧ Below w.heap.size w w' := by
  obtain ⟨A, hE, hX, hw⟩ := blk1 w #[.int .i64 p.1, .int .i64 p.2] 38
  have HS := bhasL_any n A (h.keep hw)
  rw [hn] at HS
  clear h hn
  obtain ⟨b, m, gf, cf, gb, cb, vr⟩ := K
  obtain ⟨p0, p1⟩ := p
  try dsimp only at *
  go_enter Try.func18, Try.ntmps18
  go_wp2_with (go_at_call 45; refine HS.mono ?_; rintro e W ⟨rfl, rfl⟩)
  go_ret2
  exact ⟨rfl, hw⟩
theorem baraise_nil (n : Int) (p : Int × Int) (w : World) :
    Calls Try.prog 18 #[.pointer none, .int .i64 n, Plc p.1 p.2] w fun e w' => e = .returned (.tuple #[.int .i64 0, Err 1]) ∧ Below w.heap.size w w' := by
  obtain ⟨A, hE, hX, hw⟩ := blk1 w #[.int .i64 p.1, .int .i64 p.2] 38
  obtain ⟨p0, p1⟩ := p
  try dsimp only at *
  go_enter Try.func18, Try.ntmps18
  go_wp2_with (go_at_call 45; refine (bhasL_nil _ _).mono ?_; rintro e W ⟨rfl, rfl⟩)
  go_ret2
  exact ⟨rfl, hw⟩
theorem baraise_ok {B : Nat} {K : Bkk} {S : Bsn} (i : Nat) (p : Int × Int) (w : World) (h : Bq w B K S) (hi : i < S.ba.length) (hp : J64 p.1 ∧ J64 p.2) :
    Calls Try.prog 18 #[bptr K, .int .i64 (i : Int), Plc p.1 p.2] w fun e w' => e = .returned (.tuple #[.int .i64 ((S.ks.length : Int) - ((drpB (lifB S i p)).ks.length : Int)), .nilIface]) ∧ Bq w' B K (drpB (lifB S i p)) ∧ Frm (bkB K) w w' := by
  obtain ⟨A, hE, hX, hw⟩ := blk1 w #[.int .i64 p.1, .int .i64 p.2] 38
  have hA := h.keep hw
  have HS := bhasL_any (i : Int) A hA
  have hh : hasN (i : Int) S.ba.length = true := decide_eq_true (by omega)
  rw [hh] at HS
  have HL := balift_any i p A hA hi hp
  have HD := fun (W : World) (hq : Bq W B K (lifB S i p)) => badrop_any W hq
  have hk : (lifB S i p).ks = S.ks := rfl
  have y0 : A.cell? ⟨w.heap.size, 0, none⟩ = some (.int .i64 p.1) := hX.at rfl
  have y1 : A.cell? ⟨w.heap.size, 1, none⟩ = some (.int .i64 p.2) := hX.at rfl
  rw [hk] at HD
  clear h hh hA hX hk
  generalize lifB S i p = T at *
  obtain ⟨b, m, gf, cf, gb, cb, vr⟩ := K
  obtain ⟨p0, p1⟩ := p
  try dsimp only at *
  go_enter Try.func18, Try.ntmps18
  go_wp2_with (first
    | (go_at_call 45; refine HS.mono ?_; rintro e W ⟨rfl, rfl⟩)
    | (go_at_call 35; refine HL.mono ?_; rintro e W2 ⟨rfl, hq2, hf2⟩)
    | (go_at_call 36; refine (HD _ hq2).mono ?_; rintro e W3 ⟨rfl, hq3, hf3⟩))
  go_ret2
  exact ⟨rfl, hq3, ((frm_below hw).trans hf2).trans hf3⟩
/-- A slice that is read, whatever a basin's calls turn. -/
def Stay {α : Type} (E : En α) (K : Bkk) (w : World) (v : Value) (l : List α) : Prop := ∀ V, Frm (bkB K) w V → ER E V v l
theorem Stay.er {α : Type} {E : En α} {K : Bkk} {w : World} {v : Value} {l : List α} (h : Stay E K w v l) : ER E w v l := h w (Frm.refl _ _)
theorem Stay.frm {α : Type} {E : En α} {K : Bkk} {w W : World} {v : Value} {l : List α} (h : Stay E K w v l) (hf : Frm (bkB K) w W) : Stay E K W v l := fun V hV => h V (hf.trans hV)
theorem stay_out {α : Type} {E : En α} {K : Bkk} {w : World} {v : Value} {l : List α} (h : ER E w v l) (hx : OutB v (bkB K)) : Stay E K w v l := fun V hV => h.frm hV hx
theorem fform_src {S : Bsn} {src fr la : Int} {cut : List (Int × Int)} {ops : List Op5} (h : hasN src S.fl.length = false) : ¬ fdF S src fr la cut ops := fun hf => absurd hf.1 (of_decide_eq_false h)
set_option maxHeartbeats 4000000 in
theorem bafeed_form {B : Nat} {K : Bkk} {S : Bsn} (src fr la : Int) (vc vo : Value) (cut : List (Int × Int)) (ops : List Op5) (w : World) (h : Bq w B K S) (hc : ER E2 w vc cut) (hO : ER E5 w vo ops) (hn : ¬ fdF S src fr la cut ops) :
    Calls Try.prog 11 #[bptr K, .int .i64 src, .int .i64 fr, .int .i64 la, vc, vo] w fun e w' => e = .returned (Err 2) ∧ Below w.heap.size w w' := by
  obtain ⟨qc, cc, rfl⟩ := hc.form
  obtain ⟨qo, co, eo⟩ := hO.form
  have HS := bhasS_any src w h
  have HL := blanes_any w h
  have HI := bainform_any vo ops fr la w hO
  have HN : Hid (¬ fdF S src fr la cut ops) := hn
  rw [eo] at HI ⊢
  clear hc hO hn eo
  have hca : (cut.length : Int) ≤ 9223372036854775807 → True := fun _ => trivial
  cases hs : hasN src S.fl.length
  · rw [hs] at HS
    clear h HL HI
    generalize cut.length = nc at *
    generalize ops.length = no at *
    obtain ⟨b, m, gf, cf, gb, cb, vr⟩ := K
    try dsimp only at *
    go_enter Try.func11, Try.ntmps11
    go_wp2_with (go_at_call 33; refine HS.mono ?_; rintro e W ⟨rfl, rfl⟩)
    go_ret
    exact ⟨rfl, Below.refl _ _⟩
  · rw [hs] at HS
    have hsr := of_decide_eq_true hs
    by_cases c2 : cut.length = S.ba.length
    · have c2b : ((cut.length : Int) != (S.ba.length : Int)) = false := by simp [c2]
      by_cases c3 : la < wrap64 (fr - 1)
      · clear h HI
        have HC : Hid (cut.length = S.ba.length) := c2
        clear c2
        generalize cut.length = nc at *
        generalize ops.length = no at *
        generalize S.ba.length = nb at *
        obtain ⟨b, m, gf, cf, gb, cb, vr⟩ := K
        try dsimp only at *
        go_enter Try.func11, Try.ntmps11
        go_wp2_with (first
          | (go_at_call 33; refine HS.mono ?_; rintro e W ⟨rfl, rfl⟩)
          | (go_at_call 25; refine HL.mono ?_; rintro e W ⟨rfl, rfl⟩))
        go_ret
        exact ⟨rfl, Below.refl _ _⟩
      · have HF : Hid (¬ infO ops fr la) := fun hi => HN.out ⟨hsr, c2, by omega, hi⟩
        clear h
        have HC : Hid (cut.length = S.ba.length) := c2
        clear c2
        generalize cut.length = nc at *
        generalize ops.length = no at *
        generalize S.ba.length = nb at *
        obtain ⟨b, m, gf, cf, gb, cb, vr⟩ := K
        try dsimp only at *
        go_enter Try.func11, Try.ntmps11
        go_wp2_with (first
          | (go_at_call 33; refine HS.mono ?_; rintro e W ⟨rfl, rfl⟩)
          | (go_at_call 25; refine HL.mono ?_; rintro e W ⟨rfl, rfl⟩)
          | (go_at_call 34; refine HI.mono ?_; rintro e W ⟨⟨x, rfl, hx⟩, hb⟩; obtain rfl : x = false := (by cases x; rfl; exact absurd (hx.1 rfl) HF.out); clear hx))
        go_ret
        exact ⟨rfl, hb⟩
    · have c2b : ((cut.length : Int) != (S.ba.length : Int)) = true := by simp; omega
      clear h HI c2
      generalize cut.length = nc at *
      generalize ops.length = no at *
      generalize S.ba.length = nb at *
      obtain ⟨b, m, gf, cf, gb, cb, vr⟩ := K
      try dsimp only at *
      go_enter Try.func11, Try.ntmps11
      go_wp2_with (first
        | (go_at_call 33; refine HS.mono ?_; rintro e W ⟨rfl, rfl⟩)
        | (go_at_call 25; refine HL.mono ?_; rintro e W ⟨rfl, rfl⟩))
      go_ret
      exact ⟨rfl, Below.refl _ _⟩
theorem ba_mix {S : Bsn} {cut : List (Int × Int)} (hl : cut.length = S.ba.length) {k : Nat} {p : Int × Int} (hk : k < S.ba.length) (hp : cut[k]? = some p) : lifB { S with ba := mixP S.ba cut k } k p = { S with ba := mixP S.ba cut (k + 1) } := by
  obtain ⟨c, hc⟩ : ∃ c, S.ba[k]? = some c := ⟨S.ba[k], List.getElem?_eq_getElem hk⟩
  have h1 : (mixP S.ba cut k)[k]? = some c := by rw [mixP_at hl hk, hc]
  rw [lifB_at (S := { S with ba := mixP S.ba cut k }) h1, mixP_next hl hc hp]
set_option maxHeartbeats 4000000 in
theorem bafeed_stale {B : Nat} {K : Bkk} {S : Bsn} (i : Nat) (fr la : Int) (vc vo : Value) (cut : List (Int × Int)) (ops : List Op5) (w : World) (h : Bq w B K S) (hc : ER E2 w vc cut) (hO : ER E5 w vo ops) (hn : fdF S (i : Int) fr la cut ops) {f : Flw} (hf : S.fl[i]? = some f) (hne : fr ≠ f.nx) :
    Calls Try.prog 11 #[bptr K, .int .i64 (i : Int), .int .i64 fr, .int .i64 la, vc, vo] w fun e w' => e = .returned (Err 11) ∧ Below w.heap.size w w' := by
  obtain ⟨qc, cc, rfl⟩ := hc.form
  obtain ⟨qo, co, eo⟩ := hO.form
  have HS := bhasS_any (i : Int) w h
  have HL := blanes_any w h
  have HI := bainform_any vo ops fr la w hO
  obtain ⟨n1, n2, n3, n4⟩ := hn
  have hs : hasN (i : Int) S.fl.length = true := decide_eq_true n1
  have HF : Hid (infO ops fr la) := n4
  have c2b : ((cut.length : Int) != (S.ba.length : Int)) = false := by simp [n2]
  have c3 : ¬ la < wrap64 (fr - 1) := by omega
  have c4 : (fr != f.nx) = true := by simp [hne]
  have x3 : ∀ V, Below w.heap.size w V → V.cell? ⟨K.b, 3, none⟩ = some (.slice (some ⟨K.gf, 0, none⟩) S.fl.length K.cf) := fun V hb => (h.cells V hb).2.2.2.1
  have z0 : ∀ V, Below w.heap.size w V → V.cell? ⟨K.gf, i * 3, none⟩ = some (.int .i64 f.nx) := fun V hb => (h.keep hb).fe.cell (i := 0) hf rfl
  have hli : (i : Int) < (S.fl.length : Int) := n1.2
  rw [hs] at HS
  rw [eo] at HI ⊢
  clear hc hO eo h n1 n2 n3 n4 hs hf hne
  generalize cut.length = nc at *
  generalize ops.length = no at *
  generalize S.ba.length = nb at *
  generalize S.fl.length = nf at *
  obtain ⟨b, m, gf, cf, gb, cb, vr⟩ := K
  try dsimp only at *
  go_enter Try.func11, Try.ntmps11
  go_wp2_with (first
    | (go_at_call 33; refine HS.mono ?_; rintro e W ⟨rfl, rfl⟩)
    | (go_at_call 25; refine HL.mono ?_; rintro e W ⟨rfl, rfl⟩)
    | (go_at_call 34; refine HI.mono ?_; rintro e W ⟨⟨x, rfl, hx⟩, hb⟩; obtain rfl : x = true := hx.2 HF.out; clear hx; have x3' := x3 _ hb; have z0' := z0 _ hb))
  go_ret
  exact ⟨rfl, hb⟩
/-- The state that Feed leaves, and its error. -/
def fdR (S : Bsn) (i : Nat) (cut : List (Int × Int)) (ops : List Op5) : Bsn × Option Int := takB (drpB (cutB S cut)) i ops
def fdZ (S : Bsn) (i : Nat) (la : Int) (cut : List (Int × Int)) (ops : List Op5) : Bsn := nxtB (fdR S i cut ops).1 i (tkN la (fdR S i cut ops))
set_option maxHeartbeats 4000000 in
theorem bafeed_ok {B : Nat} {K : Bkk} {S : Bsn} (i : Nat) (fr la : Int) (vc vo : Value) (cut : List (Int × Int)) (ops : List Op5) (w : World) (h : Bq w B K S) (hc : Stay E2 K w vc cut) (hO : Stay E5 K w vo ops) (hn : fdF S (i : Int) fr la cut ops) {f : Flw} (hf : S.fl[i]? = some f) (hne : fr = f.nx)
    (hcj : ∀ p ∈ cut, J64 p.1 ∧ J64 p.2) (hoj : ∀ o ∈ ops, Fit5 o) (hla : J64 la) :
    Calls Try.prog 11 #[bptr K, .int .i64 (i : Int), .int .i64 fr, .int .i64 la, vc, vo] w fun e w' => e = .returned (errV (tkE (fdR S i cut ops))) ∧ Bq w' B K (fdZ S i la cut ops) ∧ Frm (bkB K) w w' := by
  obtain ⟨qc, cc, ec⟩ := hc.er.form
  obtain ⟨qo, co, eo⟩ := hO.er.form
  have HS := bhasS_any (i : Int) w h
  have HL := blanes_any w h
  have HI := bainform_any vo ops fr la w hO.er
  obtain ⟨n1, n2, n3, n4⟩ := hn
  have hs : hasN (i : Int) S.fl.length = true := decide_eq_true n1
  have HF : Hid (infO ops fr la) := n4
  have c2b : ((cut.length : Int) != (S.ba.length : Int)) = false := by simp [n2]
  have c3 : ¬ la < wrap64 (fr - 1) := by omega
  have c4 : (fr != f.nx) = false := by simp [hne]
  have x3 : ∀ V, Below w.heap.size w V → V.cell? ⟨K.b, 3, none⟩ = some (.slice (some ⟨K.gf, 0, none⟩) S.fl.length K.cf) := fun V hb => (h.cells V hb).2.2.2.1
  have z0 : ∀ V, Below w.heap.size w V → V.cell? ⟨K.gf, i * 3, none⟩ = some (.int .i64 f.nx) := fun V hb => (h.keep hb).fe.cell (i := 0) hf rfl
  have hli : (i : Int) < (S.fl.length : Int) := n1.2
  have HB : Hid (∀ V, Below w.heap.size w V → Bq V B K S) := fun V hb => h.keep hb
  have HCl : Hid (cut.length = S.ba.length) := n2
  have h12 := h.ok.lan.2
  have HLI : Hid (i < S.fl.length) := by have := n1.2; show _ < _; omega
  have hcp : cut.length ≤ cc := by
    obtain ⟨q', c', g, off, e1, e2, -⟩ := hc.er
    rw [ec] at e1
    injection e1 with _ _ e3
    omega
  have HT : Hid (∀ (W : World) (T : Bsn), Frm (bkB K) w W → Bq W B K T → i < T.fl.length → Calls Try.prog 37 #[bptr K, .int .i64 (i : Int), .int .i64 la, vo] W fun e w' => e = .returned (errV (tkE (takB T i ops))) ∧ Bq w' B K (nxtB (takB T i ops).1 i (tkN la (takB T i ops))) ∧ Frm (bkB K) W w') := fun W T hfr hq hl => batake_any i la vo ops W hq hl (hO.frm hfr) hoj hla
  have HCu : Hid (∀ V, Frm (bkB K) w V → ER E2 V vc cut) := hc
  rw [hs] at HS
  rw [eo] at HI HT
  rw [ec] at HCu
  rw [ec, eo]
  have hne' : Hid (fr = f.nx) := hne
  clear hc hO eo ec h n1 n2 n3 n4 hs hf hne
  generalize hnc : cut.length = nc at *
  generalize ops.length = no at *
  generalize hnb : S.ba.length = nb at *
  generalize hnf : S.fl.length = nf at *
  have hcu12 : nc ≤ 12 := by have := HCl.out; omega
  obtain ⟨b, m, gf, cf, gb, cb, vr⟩ := K
  try dsimp only at *
  go_enter Try.func11, Try.ntmps11
  go_wp2_with (first
    | (go_at_call 33; refine HS.mono ?_; rintro e w ⟨rfl, rfl⟩)
    | (go_at_call 25; refine HL.mono ?_; rintro e w ⟨rfl, rfl⟩)
    | (go_at_call 34; refine HI.mono ?_; rintro e W ⟨⟨x, rfl, hx⟩, hb⟩; obtain rfl : x = true := hx.2 HF.out; clear hx; have x3' := x3 _ hb; have z0' := z0 _ hb))
  have hBW := HB.out W hb
  clear x3 z0 x3' z0' HS HL HI
  have hB0 : Bq W B ⟨b, m, gf, cf, gb, cb, vr⟩ { S with ba := mixP S.ba cut 0 } := by rw [mixP_0]; exact hBW
  have hF0 : Frm (bkB ⟨b, m, gf, cf, gb, cb, vr⟩) w W := frm_below hb
  go_loopw [55] (fun z wr => ∃ k : Nat, k ≤ nc ∧ z = .int .i64 (k : Int) ∧ Bq wr B ⟨b, m, gf, cf, gb, cb, vr⟩ { S with ba := mixP S.ba cut k } ∧ Frm (bkB ⟨b, m, gf, cf, gb, cb, vr⟩) w wr) (fun z _ => nc - (intOf z).toNat)
  case atStart => exact ⟨0, by omega, rfl, hB0, hF0⟩
  case round =>
    clear hB0 hF0 hBW
    obtain ⟨k, hk, rfl, hB, hF⟩ := hrel
    by_cases c : k = nc
    · subst c
      have HE : Hid ({ S with ba := mixP S.ba cut k } = cutB S cut) := by
        show _ = cutB S cut
        have h1 := HCl.out
        unfold cutB
        rw [← mixP_all (ct := S.ba) (ps := cut) (by omega)]
        rw [hnb, ← h1]
      have hBc : Bq wr B ⟨b, m, gf, cf, gb, cb, vr⟩ (cutB S cut) := by rw [← HE.out]; exact hB
      have HD := badrop_any wr hBc
      have hfl : (drpB (cutB S cut)).fl = S.fl := rfl
      have HT' := fun (W2 : World) (hq : Bq W2 B ⟨b, m, gf, cf, gb, cb, vr⟩ (drpB (cutB S cut))) (hfr : Frm (bkB ⟨b, m, gf, cf, gb, cb, vr⟩) w W2) => HT.out W2 _ hfr hq (by rw [hfl, hnf]; exact HLI.out)
      have HZ : Hid (∀ e, e = fdR S i cut ops → (nxtB e.1 i (tkN la e)) = fdZ S i la cut ops) := fun e he => by rw [he]; rfl
      have HR : Hid (takB (drpB (cutB S cut)) i ops = fdR S i cut ops) := rfl
      clear hB HT hfl
      generalize drpB (cutB S cut) = T at *
      generalize (cutB S cut).ks.length = kk at *
      go_wp2_with (first
        | (go_at_call 36; refine HD.mono ?_; rintro e W2 ⟨rfl, hq2, hf2⟩)
        | (go_at_call 37; refine (HT' _ hq2 (hF.trans hf2)).mono ?_; rintro e W3 ⟨rfl, hq3, hf3⟩))
      go_ret
      exact ⟨by rw [← HR.out]; rfl, by rw [← HZ.out _ rfl, ← HR.out]; exact hq3, (hF.trans hf2).trans hf3⟩
    · obtain ⟨p, hp⟩ : ∃ p, cut[k]? = some p := ⟨cut[k]'(by omega), List.getElem?_eq_getElem (by omega)⟩
      have hki : (k : Int) < (nc : Int) := by omega
      obtain ⟨q', cap', g, off, eq', -, -, hpp, hr⟩ := (HCu.out wr hF).at
      rw [hnc] at eq'
      injection eq' with e1 _ e3
      subst e1
      subst e3
      rw [hnc] at hpp
      obtain ⟨rfl, hgk⟩ := hpp (by omega)
      have y0 := hr k p hp 0 _ rfl
      have y1 := hr k p hp 1 _ rfl
      rw [Nat.add_zero, show E2.k = 2 from rfl] at y0
      rw [show E2.k = 2 from rfl] at y1
      obtain ⟨A, hE, hX, hwA⟩ := blk1 wr #[.int .i64 p.1, .int .i64 p.2] 38
      have g0 : A.cell? ⟨wr.heap.size, 0, none⟩ = some (.int .i64 p.1) := hX.at rfl
      have g1 : A.cell? ⟨wr.heap.size, 1, none⟩ = some (.int .i64 p.2) := hX.at rfl
      have hml : (mixP S.ba cut k).length = nb := by
        have h1 := HCl.out
        rw [mixP_len (by omega) (by omega)]
        exact hnb
      have HLf := balift_any k p A (hB.keep hwA) (by show k < (mixP S.ba cut k).length; rw [hml]; have := HCl.out; omega) (hcj p (List.mem_of_getElem? hp))
      have HM : Hid (lifB { S with ba := mixP S.ba cut k } k p = { S with ba := mixP S.ba cut (k + 1) }) := ba_mix (by have := HCl.out; omega) (by have := HCl.out; omega) hp
      rw [HM.out] at HLf
      have hFA := hF.trans (frm_below hwA)
      clear hr hpp hp hB hF hX
      go_wp2_with (go_at_call 35; refine HLf.mono ?_; rintro e W2 ⟨rfl, hq2, hf2⟩)
      go_roundw
      case rel => exact ⟨k + 1, by omega, by go_num, hq2, hFA.trans hf2⟩
      case measure => simp [intOf]; omega
end Go.Proofs.Ytoeilckeebojmaa
namespace Go.Proofs.Ytoeilckeebojmaa
open Go.RowKit
set_option linter.unusedVariables false
set_option maxRecDepth 100000

/-- No cell is ahead of its lane's base. -/
def npB (S : Bsn) : Prop := ∀ k ∈ S.ks, pasB S.ba k = false
theorem np_drp (S : Bsn) : npB (drpB S) := fun k hk => by
  have := (List.mem_filter.1 hk).2
  show pasB S.ba k = false
  cases h : pasB S.ba k
  · rfl
  · rw [h] at this; cases this
theorem pou_same (S : Bsn) (src : Int) (o : Op5) : (pouB S src o).res = S.res ∧ (pouB S src o).sh = S.sh ∧ (pouB S src o).mo = S.mo ∧ (pouB S src o).fl = S.fl ∧ (pouB S src o).ba = S.ba := fold_same _ _ _
theorem pnc_same (S : Bsn) (i : Nat) (t : Int) : (pncB S i t).res = S.res ∧ (pncB S i t).sh = S.sh ∧ (pncB S i t).mo = S.mo ∧ (pncB S i t).ba = S.ba ∧ (pncB S i t).ks = S.ks ∧ (pncB S i t).fl.length = S.fl.length := by
  unfold pncB
  refine ⟨rfl, rfl, rfl, rfl, rfl, ?_⟩
  show (match S.fl[i]? with | some f => S.fl.set i (pncF f t) | none => S.fl).length = _
  cases S.fl[i]? with
  | none => rfl
  | some f => simp
theorem nxt_same (S : Bsn) (i : Nat) (n : Int) : (nxtB S i n).res = S.res ∧ (nxtB S i n).sh = S.sh ∧ (nxtB S i n).mo = S.mo ∧ (nxtB S i n).ba = S.ba ∧ (nxtB S i n).ks = S.ks ∧ (nxtB S i n).fl.length = S.fl.length := by
  unfold nxtB
  refine ⟨rfl, rfl, rfl, rfl, rfl, ?_⟩
  show (match S.fl[i]? with | some f => S.fl.set i { f with nx := n } | none => S.fl).length = _
  cases S.fl[i]? with
  | none => rfl
  | some f => simp
theorem np_pou {S : Bsn} (h : npB S) (src : Int) (o : Op5) : npB (pouB S src o) := fun k hk => by
  obtain ⟨-, -, -, -, hb⟩ := pou_same S src o
  rw [hb]
  rcases (fold_mem _ _ _ _).1 hk with hk | hk
  · exact h k hk
  · have := (List.mem_filter.1 hk).2
    cases h2 : pasB S.ba k
    · rfl
    · rw [h2] at this; cases this
/-- What a row of steps keeps, and what it brings. -/
structure StK (S T : Bsn) : Prop where
  res : T.res = S.res
  sh : T.sh = S.sh
  mo : T.mo = S.mo
  ba : T.ba = S.ba
  fl : T.fl.length = S.fl.length
  ks : ∀ k ∈ S.ks, k ∈ T.ks
  np : npB S → npB T
theorem StK.refl (S : Bsn) : StK S S := ⟨rfl, rfl, rfl, rfl, rfl, fun _ h => h, fun h => h⟩
theorem StK.trans {S T U : Bsn} (h : StK S T) (k : StK T U) : StK S U := ⟨k.res.trans h.res, k.sh.trans h.sh, k.mo.trans h.mo, k.ba.trans h.ba, k.fl.trans h.fl, fun x hx => k.ks x (h.ks x hx), fun hn => k.np (h.np hn)⟩
theorem stk_pnc (S : Bsn) (i : Nat) (t : Int) : StK S (pncB S i t) := by
  obtain ⟨h1, h2, h3, h4, h5, h6⟩ := pnc_same S i t
  exact ⟨h1, h2, h3, h4, h6, fun k hk => by rw [h5]; exact hk, fun hn k hk => by rw [h4]; rw [h5] at hk; exact hn k hk⟩
theorem stk_nxt (S : Bsn) (i : Nat) (t : Int) : StK S (nxtB S i t) := by
  obtain ⟨h1, h2, h3, h4, h5, h6⟩ := nxt_same S i t
  exact ⟨h1, h2, h3, h4, h6, fun k hk => by rw [h5]; exact hk, fun hn k hk => by rw [h4]; rw [h5] at hk; exact hn k hk⟩
theorem stk_pou (S : Bsn) (src : Int) (o : Op5) : StK S (pouB S src o) := by
  obtain ⟨h1, h2, h3, h4, h5⟩ := pou_same S src o
  exact ⟨h1, h2, h3, h5, by rw [h4], fun k hk => (fold_mem _ _ _ _).2 (.inl hk), fun hn => np_pou hn src o⟩
theorem ids_stk {S T : Bsn} (h : StK S T) (o : Op5) : idsB T o = idsB S o := by unfold idsB; rw [h.res, h.sh, h.ba]
theorem stk_fold (i : Nat) : ∀ (l : List Op5) (S : Bsn), StK S (l.foldl (stpB i) (S, none)).1
  | [], S => StK.refl S
  | o :: l, S => by
    rw [List.foldl_cons]
    by_cases hk : o.k = 2
    · rw [stp_mark hk]
      exact (stk_pnc S i o.t).trans (stk_fold i l _)
    · cases hr : rooB S o
      · rw [stp_full hk hr, stp_stuck]
        exact StK.refl S
      · rw [stp_pour hk hr]
        exact (stk_pou S (i : Int) o).trans (stk_fold i l _)
/-- Every sample that was taken has all its cells. -/
theorem tak_there (i : Nat) : ∀ (l : List Op5) (S : Bsn), l.Pairwise (fun a b => a.s < b.s) → ∀ p ∈ l, p.k ≠ 2 → (∀ s, (l.foldl (stpB i) (S, none)).2 = some s → p.s < s) → ∀ k ∈ idsB S p, k ∈ (l.foldl (stpB i) (S, none)).1.ks
  | [], S, _, p, hp, _, _, _, _ => by cases hp
  | o :: l, S, hs, p, hp, hk2, hlt, k, hk => by
    obtain ⟨hs1, hs2⟩ := List.pairwise_cons.1 hs
    rw [List.foldl_cons] at hlt ⊢
    by_cases ho : o.k = 2
    · rw [stp_mark ho] at hlt ⊢
      rcases List.mem_cons.1 hp with rfl | hp
      · exact absurd ho hk2
      · exact tak_there i l _ hs2 p hp hk2 hlt k (by rw [ids_stk (stk_pnc S i o.t)]; exact hk)
    · cases hr : rooB S o
      · rw [stp_full ho hr, stp_stuck] at hlt
        have h1 := hlt o.s rfl
        rcases List.mem_cons.1 hp with rfl | hp
        · omega
        · have := hs1 p hp; omega
      · rw [stp_pour ho hr] at hlt ⊢
        rcases List.mem_cons.1 hp with rfl | hp
        · exact (stk_fold i l _).ks k ((fold_mem _ _ _ _).2 (.inr hk))
        · exact tak_there i l _ hs2 p hp hk2 hlt k (by rw [ids_stk (stk_pou S (i : Int) o)]; exact hk)
/-- The number at which it was full is one of the operations'. -/
theorem tak_some (i : Nat) : ∀ (l : List Op5) (S : Bsn) (s : Int), (l.foldl (stpB i) (S, none)).2 = some s → ∃ o ∈ l, o.s = s
  | [], S, s, h => by cases h
  | o :: l, S, s, h => by
    rw [List.foldl_cons] at h
    by_cases ho : o.k = 2
    · rw [stp_mark ho] at h
      obtain ⟨x, hx, e⟩ := tak_some i l _ s h
      exact ⟨x, by simp [hx], e⟩
    · cases hr : rooB S o
      · rw [stp_full ho hr, stp_stuck] at h
        cases h
        exact ⟨o, by simp, rfl⟩
      · rw [stp_pour ho hr] at h
        obtain ⟨x, hx, e⟩ := tak_some i l _ s h
        exact ⟨x, by simp [hx], e⟩
theorem drp_same (S : Bsn) : (drpB S).res = S.res ∧ (drpB S).sh = S.sh ∧ (drpB S).mo = S.mo ∧ (drpB S).ba = S.ba ∧ (drpB S).fl = S.fl := ⟨rfl, rfl, rfl, rfl, rfl⟩
/-- What Feed leaves. -/
structure FdK (S T : Bsn) (i : Nat) (fr la : Int) (ops : List Op5) (r : Option Int) : Prop where
  res : T.res = S.res
  sh : T.sh = S.sh
  mo : T.mo = S.mo
  fl : T.fl.length = S.fl.length
  np : npB T
  all : ∀ p ∈ ops, p.k ≠ 2 → (∀ s, r = some s → p.s < s) → ∀ k ∈ idL p.t p.y T.sh T.res, decide (k ∈ T.ks) = !pasB T.ba k
  nx : ∀ s, r = some s → nxOf T i = s ∧ fr ≤ s ∧ s ≤ la
theorem fd_kept {S : Bsn} {i : Nat} {fr la : Int} {cut : List (Int × Int)} {ops : List Op5} (hf : infO ops fr la) (hi : i < S.fl.length) : FdK S (fdZ S i la cut ops) i fr la ops (fdR S i cut ops).2 := by
  have h1 := stk_fold i ops (drpB (cutB S cut))
  have h2 := stk_nxt (fdR S i cut ops).1 i (tkN la (fdR S i cut ops))
  have h3 : StK (drpB (cutB S cut)) (fdZ S i la cut ops) := h1.trans h2
  have hnp : npB (fdZ S i la cut ops) := h3.np (np_drp _)
  refine ⟨h3.res, h3.sh, h3.mo, h3.fl, hnp, fun p hp hk hlt k hkm => ?_, fun s hs => ?_⟩
  · cases hpa : pasB (fdZ S i la cut ops).ba k
    · have hm : k ∈ idsB (drpB (cutB S cut)) p := by
        rw [← ids_stk h3]
        exact List.mem_filter.2 ⟨hkm, by rw [hpa]; rfl⟩
      have := h2.ks k (tak_there i ops _ hf.2 p hp hk hlt k hm)
      exact decide_eq_true this
    · apply decide_eq_false
      intro hm
      have := hnp k hm
      rw [hpa] at this
      cases this
  · have hl : i < (fdR S i cut ops).1.fl.length := by
      have := h1.fl
      show i < (takB (drpB (cutB S cut)) i ops).1.fl.length
      unfold takB
      rw [this]
      exact hi
    obtain ⟨o, ho, e⟩ := tak_some i ops _ s hs
    have hb := hf.1 o ho
    refine ⟨?_, by omega, by omega⟩
    unfold fdZ
    rw [nxtB_at _ (List.getElem?_eq_getElem hl)]
    unfold nxOf
    show (match ((fdR S i cut ops).1.fl.set i _)[i]? with | some f => f.nx | none => 0) = s
    rw [List.getElem?_set_self hl]
    show tkN la (fdR S i cut ops) = s
    unfold tkN
    rw [hs]
end Go.Proofs.Ytoeilckeebojmaa
namespace Go.Proofs.Ytoeilckeebojmaa
open Go.RowKit
set_option linter.unusedVariables false
set_option maxRecDepth 100000

/-- A sample of a source, as its numbers. -/
def sxF (src : Int) (o : Op5) : Nat → Int := fun i => match i with | 0 => src | 1 => o.s | 2 => o.k | 3 => o.t | 4 => o.y | 5 => o.v | _ => 0
theorem one_sxF (src : Int) (o : Op5) : oneS (sxF src o) = oneF src o.s o.t o.v := rfl
/-- What was taken for a cell: the cell's name, the source, the sample. -/
abbrev Tok := Kyy × Int × Op5
def tkF (x : Tok) : Nat → Int := sxF x.2.1 x.2.2
def smK (T : List Tok) (k : Kyy) : List (Nat → Int) := (T.filter fun x => decide (x.1 = k)).map tkF
structure FitT (x : Tok) : Prop where
  k : KyOk x.1
  src : J64 x.2.1
  op : Fit5 x.2.2
theorem smK_append (T U : List Tok) (k : Kyy) : smK (T ++ U) k = smK T k ++ smK U k := by unfold smK; rw [List.filter_append, List.map_append]
theorem smK_len (T : List Tok) (k : Kyy) : (smK T k).length ≤ T.length := by unfold smK; rw [List.length_map]; exact List.length_filter_le _ _
theorem smK_nil {T : List Tok} {k : Kyy} (h : ∀ x ∈ T, x.1 ≠ k) : smK T k = [] := by
  unfold smK
  rw [List.filter_eq_nil_iff.2 (fun x hx => by simpa using h x hx)]
  rfl
theorem smK_ne {T : List Tok} {k : Kyy} {x : Tok} (hx : x ∈ T) (e : x.1 = k) : smK T k ≠ [] := by
  intro h
  have hm : tkF x ∈ smK T k := List.mem_map.2 ⟨x, List.mem_filter.2 ⟨hx, by simpa using e⟩, rfl⟩
  rw [h] at hm
  cases hm
theorem smK_fit {T : List Tok} {k : Kyy} (h : ∀ x ∈ T, FitT x) : ∀ s ∈ smK T k, Fit (s 0) ∧ Fit (s 1) ∧ Fit (s 3) ∧ Fit (s 5) := by
  intro s hs
  obtain ⟨x, hx, rfl⟩ := List.mem_map.1 hs
  have hf := h x (List.mem_filter.1 hx).1
  exact ⟨hf.src, hf.op.s, hf.op.t, hf.op.v⟩
theorem smK_filter {T : List Tok} {k : Kyy} {p : Kyy → Bool} : smK (T.filter fun x => p x.1) k = if p k = true then smK T k else [] := by
  unfold smK
  rw [List.filter_filter]
  by_cases c : p k = true
  · rw [if_pos c]
    congr 1
    apply List.filter_congr
    intro x _
    by_cases e : x.1 = k
    · simp [e, c]
    · simp [e]
  · rw [if_neg c, List.map_eq_nil_iff, List.filter_eq_nil_iff]
    intro x _ h
    simp only [Bool.and_eq_true, decide_eq_true_eq] at h
    obtain ⟨e, hp⟩ := h
    rw [e] at hp
    exact c hp
/-- A basin's cells are those of what was taken. -/
structure TkI (S : Bsn) (T : List Tok) : Prop where
  ks : ∀ k, k ∈ S.ks ↔ ∃ x ∈ T, x.1 = k
  cv : ∀ k, Eqv (S.cv k) (JL (smK T k))
  ft : ∀ x ∈ T, FitT x
theorem tki_new (n : Nat) (res : List Int) (sh mo : Int) : TkI (newBsn n res sh mo) [] := ⟨fun k => ⟨fun h => (by cases h), fun ⟨x, h, _⟩ => (by cases h)⟩, fun k => Eqv.refl _, fun x h => (by cases h)⟩
theorem tki_of {S S' : Bsn} {T : List Tok} (h : TkI S T) (h1 : S'.ks = S.ks) (h2 : S'.cv = S.cv) : TkI S' T := ⟨by rw [h1]; exact h.ks, by rw [h2]; exact h.cv, h.ft⟩
theorem eqv_join {a b c : Nat → Int} (h : Eqv a b) : Eqv (joinF [a, c]) (joinF [b, c]) := by
  rw [joinF2, joinF2, eqC_congr h (Eqv.refl zc)]
  split
  · exact Eqv.refl _
  · split
    · exact h
    · exact both_congr h (Eqv.refl _)
theorem tki_add {S : Bsn} {T : List Tok} (h : TkI S T) (k : Kyy) (src : Int) (o : Op5) (hl : T.length + 1 ≤ 2000) (hf : FitT (k, src, o)) : TkI (addB S (oneF src o.s o.t o.v) k) (T ++ [(k, src, o)]) := by
  refine ⟨fun j => ?_, fun j => ?_, fun x hx => ?_⟩
  · show j ∈ addK S.ks k ↔ _
    rw [mem_addK, h.ks]
    constructor
    · rintro (⟨x, hx, e⟩ | rfl)
      · exact ⟨x, by simp [hx], e⟩
      · exact ⟨(j, src, o), by simp, rfl⟩
    · rintro ⟨x, hx, e⟩
      rcases List.mem_append.1 hx with hx | hx
      · exact .inl ⟨x, hx, e⟩
      · rw [List.mem_singleton.1 hx] at e
        exact .inr e.symm
  · show Eqv (addC S.cv k (oneF src o.s o.t o.v) j) _
    unfold addC
    by_cases e : j = k
    · subst e
      rw [if_pos rfl, smK_append]
      have hone : smK [(j, src, o)] j = [sxF src o] := by simp [smK, tkF]
      rw [hone]
      have h1 := join_groups (smK T j) [sxF src o] (by have := smK_len T j; simp only [List.length_cons, List.length_nil]; omega) (fun s hs => (smK_fit h.ft s hs).2.2.2) (fun s hs => by rw [List.mem_singleton.1 hs]; exact hf.op.v)
      rw [JL_one, one_sxF] at h1
      exact (eqv_join (h.cv j)).trans h1
    · rw [if_neg e, smK_append]
      have hone : smK [(k, src, o)] j = [] := smK_nil (fun x hx => by rw [List.mem_singleton.1 hx]; exact fun e2 => e e2.symm)
      rw [hone, List.append_nil]
      exact h.cv j
  · rcases List.mem_append.1 hx with hx | hx
    · exact h.ft x hx
    · rw [List.mem_singleton.1 hx]; exact hf
def tokL (src : Int) (o : Op5) (l : List Kyy) : List Tok := l.map fun k => (k, src, o)
theorem tki_fold (src : Int) (o : Op5) (hs : J64 src) (ho : Fit5 o) : ∀ (l : List Kyy) (S : Bsn) (T : List Tok), TkI S T → (∀ k ∈ l, KyOk k) → T.length + l.length ≤ 2000 → TkI (l.foldl (fun U k => addB U (oneF src o.s o.t o.v) k) S) (T ++ tokL src o l)
  | [], S, T, h, _, _ => by simpa [tokL] using h
  | k :: l, S, T, h, hk, hl => by
    rw [List.length_cons] at hl
    rw [List.foldl_cons]
    have := tki_fold src o hs ho l _ _ (tki_add h k src o (by omega) ⟨hk k (by simp), hs, ho⟩) (fun j hj => hk j (by simp [hj])) (by rw [List.length_append, List.length_singleton]; omega)
    rw [show T ++ tokL src o (k :: l) = T ++ [(k, src, o)] ++ tokL src o l by simp [tokL]]
    exact this
theorem tki_pou {S : Bsn} {T : List Tok} (h : TkI S T) (hok : Okb S) (src : Int) (o : Op5) (hs : J64 src) (ho : Fit5 o) (hl : T.length + (idsB S o).length ≤ 2000) : TkI (pouB S src o) (T ++ tokL src o (idsB S o)) :=
  tki_fold src o hs ho _ _ _ h (fun k hk => (idsB_mem hok ho hk).1) hl
theorem tki_drp {S : Bsn} {T : List Tok} (h : TkI S T) : TkI (drpB S) (T.filter fun x => !pasB S.ba x.1) := by
  refine ⟨fun k => ?_, fun k => ?_, fun x hx => h.ft x (List.mem_filter.1 hx).1⟩
  · show k ∈ S.ks.filter (fun k => !pasB S.ba k) ↔ _
    rw [List.mem_filter, h.ks]
    constructor
    · rintro ⟨⟨x, hx, e⟩, hp⟩
      exact ⟨x, List.mem_filter.2 ⟨hx, by rw [e]; exact hp⟩, e⟩
    · rintro ⟨x, hx, e⟩
      obtain ⟨hx, hp⟩ := List.mem_filter.1 hx
      exact ⟨⟨x, hx, e⟩, by rw [← e]; exact hp⟩
  · show Eqv (kepC (S.ks.filter fun k => !pasB S.ba k) S.cv k) _
    rw [smK_filter (p := fun k => !pasB S.ba k)]
    unfold kepC
    by_cases c : (!pasB S.ba k) = true
    · rw [if_pos c]
      by_cases hk : k ∈ S.ks
      · rw [if_pos (List.mem_filter.2 ⟨hk, c⟩)]
        exact h.cv k
      · rw [if_neg (fun e => hk (List.mem_filter.1 e).1), smK_nil (fun x hx e => hk ((h.ks k).2 ⟨x, hx, e⟩))]
        exact Eqv.refl _
    · rw [if_neg c, if_neg (show ¬ k ∈ List.filter (fun k => !pasB S.ba k) S.ks from fun e => c (List.mem_filter.1 e).2)]
      exact Eqv.refl _
/-! ### In whatever order -/
theorem JL_cons (s : Nat → Int) (m : List (Nat → Int)) (h : m ≠ []) : Eqv (JL (s :: m)) (bothF (oneS s) (JL m)) := by
  have := JL_append [s] m (by simp) h
  rwa [JL_one] at this
theorem JL_perm {m k : List (Nat → Int)} (h : m.Perm k) : Eqv (JL m) (JL k) := by
  induction h with
  | nil => exact Eqv.refl _
  | cons x h ih =>
    rename_i l1 l2
    by_cases e : l1 = []
    · subst e
      rw [List.nil_perm.1 h]
      exact Eqv.refl _
    · have e2 : l2 ≠ [] := fun e2 => e (by rw [e2] at h; exact List.perm_nil.1 h)
      exact ((JL_cons x l1 e).trans (both_congr (Eqv.refl _) ih)).trans (JL_cons x l2 e2).symm
  | swap x y l =>
    by_cases e : l = []
    · subst e
      have h1 := JL_cons y [x] (by simp)
      have h2 := JL_cons x [y] (by simp)
      rw [JL_one] at h1 h2
      exact (h1.trans (both_comm _ _)).trans h2.symm
    · have h1 := (JL_cons y (x :: l) (by simp)).trans (both_congr (Eqv.refl _) (JL_cons x l e))
      have h2 := (JL_cons x (y :: l) (by simp)).trans (both_congr (Eqv.refl _) (JL_cons y l e))
      refine (h1.trans ?_).trans h2.symm
      refine (both_assoc (oneS y) (oneS x) (JL l)).symm.trans ?_
      exact (both_congr (both_comm _ _) (Eqv.refl _)).trans (both_assoc _ _ _)
  | trans _ _ ih1 ih2 => exact ih1.trans ih2
theorem smK_perm {T U : List Tok} (h : T.Perm U) (k : Kyy) : (smK T k).Perm (smK U k) := (h.filter _).map _
/-- Two basins that took the same, in whatever order. -/
theorem tki_same {S S' : Bsn} {T U : List Tok} (h : TkI S T) (h' : TkI S' U) (hp : T.Perm U) : (∀ k, k ∈ S.ks ↔ k ∈ S'.ks) ∧ ∀ k, Eqv (S.cv k) (S'.cv k) := by
  refine ⟨fun k => ?_, fun k => ((h.cv k).trans (JL_perm (smK_perm hp k))).trans (h'.cv k).symm⟩
  rw [h.ks, h'.ks]
  exact ⟨fun ⟨x, hx, e⟩ => ⟨x, hp.mem_iff.1 hx, e⟩, fun ⟨x, hx, e⟩ => ⟨x, hp.mem_iff.2 hx, e⟩⟩
end Go.Proofs.Ytoeilckeebojmaa
namespace Go.Proofs.Ytoeilckeebojmaa
open Go.RowKit Go.Maps
set_option linter.unusedVariables false
set_option maxRecDepth 100000

def zFl : Flw := ⟨0, 0, false⟩
theorem eltFl : Try.prog.underlying 86 = some (.slice (Try.prog.elem 86)) := by kernel_rfl
theorem sizeFlw (w : World) : (sizeOf (Try.prog.elem 86)).run Try.prog w = .ok 3 w := by kernel_rfl
theorem infoFl3 : (Try.prog.info? 89).map (fun i => (i.zero, i.size, i.bytes)) = some (some (.agg #[.int .i64 0, .int .i64 0, .bool false]), 3, 24) := by kernel_rfl
theorem sizeFl3 : (Try.prog.info? 89).map (·.size) = some 3 := by kernel_rfl
theorem e3f_splice (p : Flw) (n m c : Nat) (h : n + m ≤ c) (z : Flw) : (E3f.fl (List.replicate n p ++ List.replicate (c - n) z)).take (n * 3) ++ E3f.fl (List.replicate m p) ++ (E3f.fl (List.replicate n p ++ List.replicate (c - n) z)).drop (n * 3 + m * 3) = E3f.fl (List.replicate (n + m) p ++ List.replicate (c - (n + m)) z) := by
  have h1 := E3f.fl_take (List.replicate n p ++ List.replicate (c - n) z) n
  have h2 := E3f.fl_drop (List.replicate n p ++ List.replicate (c - n) z) (n + m)
  rw [show (n + m) * E3f.k = n * 3 + m * 3 from Nat.add_mul n m 3] at h2
  rw [show n * E3f.k = n * 3 from rfl] at h1
  rw [h1, h2, ← E3f.fl_append, ← E3f.fl_append]
  congr 1
  have e : List.replicate (n + m) p = List.replicate n p ++ List.replicate m p := by simp
  rw [List.take_left' (by simp), e]
  congr 1
  rw [List.drop_append, List.drop_of_length_le (by simp), List.nil_append, List.length_replicate, List.drop_replicate]
  congr 1
  omega
set_option maxHeartbeats 2000000 in
theorem barep_any (p : Flw) (c : Nat) (g0 : Nat) (w : World) (h0 : 1 ≤ c) (hc : c ≤ 4) (hB : Blk w g0 (flA p) 89) :
    Calls Try.prog 30 #[.slice (some ⟨g0, 0, none⟩) 1 1, .int .i64 (c : Int)] w fun e w' => ∃ v, e = .returned v ∧ EO E3f 89 w' w.heap.size v (List.replicate c p) ∧ Below w.heap.size w w' := by
  have hci : (0 : Int) ≤ (c : Int) := by omega
  go_enter Try.func30, Try.ntmps30
  go_upto_region 6 with (go_at_call 49; refine (smul_any c (by omega) _).mono ?_; rintro e w ⟨rfl, rfl⟩)
  go_upto_region 7 with (refine mk_e (E := E3f) rfl zFl rfl Try.underlying86 infoFl3 rfl rfl rfl rfl (by omega) (by omega) ?_; intro W1 hB1 b1)
  have hs0 := hB.keep b1
  have hlen1 : (E3f.fl (List.replicate c zFl)).length = c * 3 := by rw [E3f.fl_len, List.length_replicate]; rfl
  have hr1 := fun ty => run_copy_rowK (P := Try.prog) W1 86 86 ty 89 3 w.heap.size 0 c c ⟨g0, 0, none⟩ 1 1 _ 89 (flA p).toList Try.underlying86 sizeFl3 hB1 (by rw [show Nat.min 1 c = 1 from Nat.min_eq_left h0]; rfl) (by
    intro j v hj
    rw [Addr.add_mid, Nat.zero_add, hs0.cell]; simpa using hj) (by simp [hlen1, flA]; omega) (by simp [flA, Value.oneCell'])
  have HE1 : Hid (E3f.fl (List.replicate c zFl) = E3f.fl (List.replicate c zFl)) := rfl
  have hx1 : ((E3f.fl (List.replicate c zFl)).toArray.toList.take 0 ++ (flA p).toList ++ (E3f.fl (List.replicate c zFl)).toArray.toList.drop (0 + (flA p).toList.length)) = E3f.fl (List.replicate 1 p ++ List.replicate (c - 1) zFl) := by
    have := e3f_splice p 0 1 c (by omega) zFl
    simpa [En.fl_one1, E3f, flA] using this
  rw [hx1, show Nat.min 1 c = 1 from Nat.min_eq_left h0] at hr1
  have hB2 : Blk (W1.setRow w.heap.size (E3f.fl (List.replicate 1 p ++ List.replicate (c - 1) zFl)).toArray) w.heap.size (E3f.fl (List.replicate 1 p ++ List.replicate (c - 1) zFl)).toArray 89 := blk_setRow hB1 _
  have C2 := chg_setRow W1 w.heap.size (E3f.fl (List.replicate 1 p ++ List.replicate (c - 1) zFl)).toArray
  clear hx1 HE1
  generalize W1.setRow w.heap.size (E3f.fl (List.replicate 1 p ++ List.replicate (c - 1) zFl)).toArray = W2 at *
  have b2 := ab_chg b1 C2 (Nat.le_refl _)
  go_upto_region 8 with (refine cp_l rfl rfl _ _ rfl rfl hr1 ?_)
  clear hr1 hB1 hs0 hB b1 C2 hlen1
  go_loopw [8] (fun n wr => ∃ k : Nat, 1 ≤ k ∧ k ≤ c ∧ n = .int .i64 (k : Int) ∧ Blk wr w.heap.size (E3f.fl (List.replicate k p ++ List.replicate (c - k) zFl)).toArray 89 ∧ Below w.heap.size w wr) (fun n _ => c - (intOf n).toNat)
  case atStart => exact ⟨1, Nat.le_refl _, h0, rfl, hB2, b2⟩
  case round =>
    clear hB2 b2
    obtain ⟨k, hk0, hk, rfl, hB, hb⟩ := hrel
    by_cases hkc : k = c
    · subst hkc
      rw [Nat.sub_self, List.replicate_zero, List.append_nil] at hB
      have HB : Hid (Blk wr w.heap.size (E3f.fl (List.replicate k p)).toArray 89) := hB
      clear hB
      go_wp2_with fail
      go_ret
      refine ⟨_, rfl, eo_of (n := k) (own_blkE HB.out (Nat.le_refl _) (by rw [E3f.fl_len, List.length_replicate]) (by unfold maxLen; omega)), hb⟩
    · have hki : (k : Int) < (c : Int) := by omega
      obtain ⟨m, hm⟩ : ∃ m, m = Nat.min k (c - k) := ⟨_, rfl⟩
      have hm1 : 1 ≤ m := by rw [hm]; exact Nat.le_min.2 ⟨hk0, by omega⟩
      have hm2 : m ≤ k := by rw [hm]; exact Nat.min_le_left _ _
      have hm3 : m ≤ c - k := by rw [hm]; exact Nat.min_le_right _ _
      obtain ⟨o', es, ho'⟩ := sliced_some w.heap.size 0 k c c 3
      have ho2 := ho' (by omega)
      rw [Nat.zero_add] at ho2
      subst ho2
      have hlen : (E3f.fl (List.replicate k p ++ List.replicate (c - k) zFl)).length = c * 3 := by
        rw [E3f.fl_len, List.length_append, List.length_replicate, List.length_replicate, show k + (c - k) = c by omega]; rfl
      have hr := fun (V : World) (hV : Blk V w.heap.size (E3f.fl (List.replicate k p ++ List.replicate (c - k) zFl)).toArray 89) ty => run_copy_rowK (P := Try.prog) V 86 86 ty 89 3 w.heap.size (k * 3) (c - k) (c - k) ⟨w.heap.size, 0, none⟩ k c _ 89 (E3f.fl (List.replicate m p)) Try.underlying86 sizeFl3 hV (by rw [← hm, E3f.fl_len, List.length_replicate]; rfl) (by
        intro j v hj
        have hj2 := (List.getElem?_eq_some_iff.1 hj).1
        have e : E3f.fl (List.replicate k p ++ List.replicate (c - k) zFl) = E3f.fl (List.replicate m p) ++ E3f.fl (List.replicate (k - m) p ++ List.replicate (c - k) zFl) := by
          rw [← E3f.fl_append, ← List.append_assoc]
          congr 2
          rw [List.replicate_append_replicate]; congr 1; omega
        rw [Addr.add_mid, Nat.zero_add, hV.cell, e]
        simp only [List.getElem?_toArray]
        rw [List.getElem?_append_left hj2]
        exact hj) (by simp only [List.size_toArray]; rw [hlen, E3f.fl_len, List.length_replicate]; show k * 3 + m * 3 ≤ c * 3; omega) (E3f.fl_cell _)
      rw [← hm] at hr
      have hsp := e3f_splice p k m c (by omega) zFl
      simp only [E3f.fl_len, List.length_replicate, show E3f.k = 3 from rfl] at hr
      rw [hsp] at hr
      clear hsp hlen hm ho'
      go_upto_region 9 with fail
      refine wp_region_held_drew (S := fun _ => True) (by kernel_rfl) trivial (fun hHeld => ?_)
      have hBV : Blk wr.drew w.heap.size (E3f.fl (List.replicate k p ++ List.replicate (c - k) zFl)).toArray 89 := hB
      have hbV : Below w.heap.size w wr.drew := ab_drew hb
      generalize wr.drew = V at *
      refine takeH (i := 0) (some 38) rfl rfl (by kernel_rfl) (by kernel_rfl) (by kernel_rfl) (fun _ _ _ h => h) (by rfl) (fun w hSw => by (try dsimp only at hSw); go_simp; try rfl) hHeld ?_
      go_frame
      refine takeH (i := 1) (some 39) rfl rfl (by kernel_rfl) (by kernel_rfl) (by kernel_rfl) (fun _ _ _ h => h) (by rfl) (fun w hSw => by (try dsimp only at hSw); go_simp; try rfl) hHeld ?_
      go_frame
      refine takeH (i := 2) (some 40) rfl rfl (by kernel_rfl) (by kernel_rfl) (by kernel_rfl) (fun _ _ _ h => h) (by rfl) (fun w hSw => by (try dsimp only at hSw); go_simp; try rfl) hHeld ?_
      go_frame
      refine takeH (i := 3) (some 41) rfl rfl (by kernel_rfl) (by kernel_rfl) (by kernel_rfl) (fun _ _ _ h => h) (by rfl) (fun w hSw => by (try dsimp only at hSw); (exact slo_l (x := .tmp 39) (y := .tmp 40) rfl rfl rfl rfl eltFl (sizeFlw _) (by omega) (by omega) es)) hHeld ?_
      go_frame
      refine takeH (i := 4) (some 42) rfl rfl (by kernel_rfl) (by kernel_rfl) (by kernel_rfl) (fun _ _ _ h => h) (by rfl) (fun w hSw => by (try dsimp only at hSw); go_simp; try rfl) hHeld ?_
      go_frame
      refine takeH (i := 5) (some 43) rfl rfl (by kernel_rfl) (by kernel_rfl) (by kernel_rfl) (fun _ _ _ h => h) (by rfl) (fun w hSw => by (try dsimp only at hSw); go_simp; try rfl) hHeld ?_
      go_frame
      refine takeH (i := 6) (some 44) rfl rfl (by kernel_rfl) (by kernel_rfl) (by kernel_rfl) (fun _ _ _ h => h) (by rfl) (fun w hSw => by (try dsimp only at hSw); (exact slo_h (x := .tmp 42) (z := .tmp 43) rfl rfl rfl rfl eltFl (sizeFlw _) (by omega))) hHeld ?_
      go_frame
      refine wpAnyH_ready (rs := [7]) (by kernel_rfl) (by simp) (AllReadyH.cons rfl (fun K hK => ?_) AllReadyH.nil)
      rw [if_pos (by rfl)]
      refine cpW (some 45) rfl rfl _ _ rfl rfl (hr V hBV) ?_
      have hB2 : Blk (V.setRow w.heap.size (E3f.fl (List.replicate (k + m) p ++ List.replicate (c - (k + m)) zFl)).toArray) w.heap.size (E3f.fl (List.replicate (k + m) p ++ List.replicate (c - (k + m)) zFl)).toArray 89 := blk_setRow hBV _
      have b2 := ab_chg hbV (chg_setRow V w.heap.size (E3f.fl (List.replicate (k + m) p ++ List.replicate (c - (k + m)) zFl)).toArray) (Nat.le_refl _)
      refine hK.out _ _ trivial (fun hHeld => ?_)
      clear hK K hr hBV hbV
      generalize V.setRow w.heap.size (E3f.fl (List.replicate (k + m) p ++ List.replicate (c - (k + m)) zFl)).toArray = W2 at *
      have hadd1 : IntKind.i64.wrap ((k : Int) + (m : Int)) = (k : Int) + (m : Int) := by simp [IntKind.wrap, IntKind.signed, IntKind.bits] <;> omega
      go_frame
      refine takeH (i := 8) (some 46) rfl rfl (by kernel_rfl) (by kernel_rfl) (by kernel_rfl) (fun _ _ _ h => h) (by rfl) (fun w hSw => by (try dsimp only at hSw); go_simp; try rfl) hHeld ?_
      go_frame
      refine takeH (i := 9) (some 8) rfl rfl (by kernel_rfl) (by kernel_rfl) (by kernel_rfl) (fun _ _ _ h => h) (by rfl) (fun w hSw => by (try dsimp only at hSw); go_simp; try rfl) hHeld ?_
      go_frame
      refine wpAnyH_done (by kernel_rfl) ?_ _
      go_wp2_with fail
      exact ⟨⟨k + m, by omega, by omega, by rw [Int.natCast_add], hB2, b2⟩, by simp only [intOf]; omega⟩
theorem newOK_iff {n : Int} {res : List Int} {sh mo : Int} : newOK n res sh mo = true ↔ (1 ≤ n ∧ n ≤ 4) ∧ goodR res sh = true ∧ (1 ≤ mo ∧ mo ≤ 1024) := by
  unfold newOK
  simp only [Bool.and_eq_true, decide_eq_true_eq]
  constructor
  · rintro ⟨⟨a, b⟩, c⟩; exact ⟨a, b, c⟩
  · rintro ⟨a, b, c⟩; exact ⟨⟨a, b⟩, c⟩
theorem okb_new {n : Nat} {res : List Int} {sh mo : Int} (h : newOK (n : Int) res sh mo = true) (hr : ∀ r ∈ res, r ≤ 9223372036854775807) : Okb (newBsn n res sh mo) := by
  obtain ⟨a, b, c⟩ := newOK_iff.1 h
  obtain ⟨b1, b2, b3⟩ := goodR_iff.1 b
  refine ⟨b2.1, b2.2, fun r h => ⟨b1 r h, hr r h⟩, b3.1, b3.2, c.1, c.2, ?_, ?_, ?_, ?_, ?_, List.nodup_nil, ?_, fun k h => (by cases h), fun k => wf_zc, fun k _ => rfl⟩
  · show 1 ≤ (List.replicate n newFl).length; rw [List.length_replicate]; omega
  · show (List.replicate n newFl).length ≤ 4; rw [List.length_replicate]; omega
  · intro f hf
    have := List.eq_of_mem_replicate hf
    subst this
    unfold newFl J64; dsimp only; omega
  · show ((List.replicate (res.length * sh.toNat) lstP).length : Int) = (res.length : Int) * sh
    rw [List.length_replicate, Int.natCast_mul, Int.toNat_of_nonneg (by omega)]
  · intro p hp
    have := List.eq_of_mem_replicate hp
    subst this
    unfold lstP J64; dsimp only; omega
  · show ((0 : Nat) : Int) ≤ mo; omega
theorem banew_no (n : Int) (v : Value) (res : List Int) (sh mo : Int) (w : World) (hv : Is w v res) (h : newOK n res sh mo = false) :
    Calls Try.prog 9 #[.int .i64 n, v, .int .i64 sh, .int .i64 mo] w fun e w' => e = .returned (.tuple #[.pointer none, Err 2]) ∧ w' = w := by
  obtain ⟨q, cap, hf⟩ := hv.form
  have HG := bgood_any v res sh w hv
  rw [hf] at HG ⊢
  generalize res.length = k at *
  have HN : Hid (newOK n res sh mo = false) := h
  clear h hv hf
  cases a1 : wiB n 4
  · go_enter Try.func9, Try.ntmps9
    go_wp2_with (go_at_call 28; refine (bwithin_any _ _ _).mono ?_; rintro e w ⟨rfl, rfl⟩; rw [a1])
    go_ret2
    exact ⟨rfl, rfl⟩
  · cases a2 : goodR res sh
    · rw [a2] at HG
      go_enter Try.func9, Try.ntmps9
      go_wp2_with (first
        | (go_at_call 28; refine (bwithin_any _ _ _).mono ?_; rintro e w ⟨rfl, rfl⟩; rw [a1])
        | (go_at_call 29; refine HG.mono ?_; rintro e w ⟨rfl, rfl⟩))
      go_ret2
      exact ⟨rfl, rfl⟩
    · have a3 : wiB mo 1024 = false := by
        cases hh : wiB mo 1024
        · rfl
        · have h1 := HN.out
          have : newOK n res sh mo = true := newOK_iff.2 ⟨of_decide_eq_true a1, a2, of_decide_eq_true hh⟩
          rw [this] at h1; cases h1
      rw [a2] at HG
      go_enter Try.func9, Try.ntmps9
      go_wp2_with (first
        | (go_at_call 28; refine (bwithin_any _ _ _).mono ?_; rintro e w ⟨rfl, rfl⟩; first | rw [a1] | rw [a3])
        | (go_at_call 29; refine HG.mono ?_; rintro e w ⟨rfl, rfl⟩))
      go_ret2
      exact ⟨rfl, rfl⟩
theorem bsv_l {P : Program} {ops : Array Oper} {rest : List Oper} {o : Oper} {a : Act} {w : World} {Q : Exit → Act → World → Prop} (hw : Region.wanted o (yielded ops a.tmps) = true) {t : TypeId} {n : Nat} {parts : Array (Nat × Operand)} (ho : o.op = .buildSlice t n parts) {L : Array (Nat × Value)} (hl : parts.map (fun (i, x) => (i, a.eval x)) = L) {v : Value} {w' : World}
    (hr : (Instr.buildSlice t n L).run P w = .ok v w') (h : wpList P ops Q rest (a.put o.dst v) w') : wpList P ops Q (o :: rest) a w := by
  unfold wpList
  rw [if_pos hw]
  left
  unfold Oper.wp execOp
  simp only [ho, Sem.run_bind, hl, hr, Result.andThen_ok]
  exact h
theorem bfl1 (w : World) : (Instr.buildSlice 86 1 #[(0, .agg #[.int .i64 1, .int .i64 0, .bool false])]).run Try.prog w = .ok (.slice (some ⟨w.heap.size, 0, none⟩) 1 1) (w.alloc (.cells #[.int .i64 1, .int .i64 0, .bool false] 89)) := by kernel_rfl
theorem bapl1 (x y : Int) (w : World) : (Instr.buildSlice 36 1 #[(0, .agg #[.int .i64 x, .int .i64 y])]).run Try.prog w = .ok (.slice (some ⟨w.heap.size, 0, none⟩) 1 1) (w.alloc (.cells #[.int .i64 x, .int .i64 y] 38)) := by kernel_rfl
theorem built_fl : Try.prog.built 89 [(0, .int .i64 1)] = some #[.int .i64 1, .int .i64 0, .bool false] := by kernel_rfl
theorem built_bs (q : Option Addr) (k c : Nat) (sh mo : Int) (g1 n1 c1 g2 n2 c2 m : Nat) : Try.prog.built 93 [(0, .slice q k c), (1, .int .i64 sh), (2, .int .i64 mo), (3, .slice (some ⟨g1, 0, none⟩) n1 c1), (4, .slice (some ⟨g2, 0, none⟩) n2 c2), (5, .map (some m))] = some #[.slice q k c, .int .i64 sh, .int .i64 mo, .slice (some ⟨g1, 0, none⟩) n1 c1, .slice (some ⟨g2, 0, none⟩) n2 c2, .map (some m)] := by kernel_rfl
/-- What New answers, where all is in form. -/
def NewE (e : Ending) (W : World) (B : Nat) (S : Bsn) : Prop := ∃ K : Bkk, e = .returned (.tuple #[bptr K, .nilIface]) ∧ Bq W B K S
set_option maxHeartbeats 1000000 in
theorem banew_ok (n : Nat) (v : Value) (res : List Int) (sh mo : Int) (w : World) (hv : Is w v res) (hr : ∀ r ∈ res, r ≤ 9223372036854775807) (h : newOK (n : Int) res sh mo = true) :
    Calls Try.prog 9 #[.int .i64 (n : Int), v, .int .i64 sh, .int .i64 mo] w fun e w' => NewE e w' w.heap.size (newBsn n res sh mo) ∧ Below w.heap.size w w' := by
  obtain ⟨q, cap, hf⟩ := hv.form
  obtain ⟨h1, h2, h3⟩ := newOK_iff.1 h
  obtain ⟨b1, b2, b3⟩ := goodR_iff.1 h2
  have HG := bgood_any v res sh w hv
  have HO := okb_new h hr
  have a1 : wiB (n : Int) 4 = true := decide_eq_true h1
  have a3 : wiB mo 1024 = true := decide_eq_true h3
  obtain ⟨sn, hsn⟩ : ∃ sn : Nat, sh = (sn : Int) := ⟨sh.toNat, by omega⟩
  have hcl : res.length * sn ≤ 12 := by have := Nat.mul_le_mul b2.2 (show sn ≤ 4 by omega); omega
  have hcl1 : 1 ≤ res.length * sn := by have := Nat.mul_le_mul b2.1 (show 1 ≤ sn by omega); omega
  have HM : Hid ((res.length : Int) * sh = ((res.length * sn : Nat) : Int)) := by show _ = _; rw [hsn, Int.natCast_mul]
  have hmul := HM.out
  have HTn : Hid (res.length * sh.toNat = res.length * sn) := by show _ = _; rw [hsn, Int.toNat_natCast]
  have hn1 : 1 ≤ n := by omega
  have hn4 : n ≤ 4 := by omega
  have hk3 : res.length ≤ 3 := b2.2
  have HV := hv
  rw [h2] at HG
  rw [hf] at HG HV ⊢
  clear hv hf h1 h3 h b1 b2 b3 hr
  generalize hkr : res.length = k at *
  generalize hcc : k * sn = c at *
  have HKR : Hid (res.length = k) := hkr
  have HNB : Hid (newBsn n res sh mo = ⟨res, sh, mo, List.replicate n newFl, List.replicate c lstP, [], fun _ => zc⟩) := by
    show _ = _
    unfold newBsn
    rw [hkr, HTn.out]
  have HOK : Hid (Okb (newBsn n res sh mo)) := HO
  have hmm := @run_makeMap Try.prog
  clear hsn hcc hmul h2 hkr HO
  go_enter Try.func9, Try.ntmps9
  go_upto_region 3 with (first
    | (go_at_call 28; refine (bwithin_any _ _ _).mono ?_; rintro e w ⟨rfl, rfl⟩; first | rw [a1] | rw [a3])
    | (go_at_call 29; refine HG.mono ?_; rintro e w ⟨rfl, rfl⟩))
  refine wp_region_lit ?_
  refine valS rfl (.slice q k cap) rfl ?_
  refine app_i w rfl rfl (l := []) (m := res) rfl (World.ownsRow_nil _ _ _ _) rfl HV rfl (by have := HKR.out; omega) (Below.refl _ _) ?_
  intro v' W1 hown hnil b1 hg1 hat
  have hO := io_of hown
  obtain ⟨q1, cap1, rfl⟩ := hO.is.form
  have HO1 : Hid (Io W1 w.heap.size (.slice q1 k cap1) res) := by
    have : Io W1 w.heap.size (.slice q1 res.length cap1) res := hO
    rw [HKR.out] at this
    exact this
  clear hnil hg1 hat hown hO HG HV
  have hkr2 : ([] ++ res : List Int).length = k := HKR.out
  rw [hkr2]
  clear hkr2
  go_frame
  refine valS rfl (.int .i64 sh) rfl ?_
  go_frame
  refine valS rfl (.int .i64 mo) rfl ?_
  go_frame
  refine valS rfl _ (bd_run rfl built_fl (by simp only [List.map_toArray, List.map_cons, List.map_nil]; rfl) _) ?_
  go_frame
  refine bsv_l rfl rfl (by simp only [List.map_toArray, List.map_cons, List.map_nil]; rfl) (bfl1 _) ?_
  obtain ⟨W2, hE2, hX2, b2⟩ := blk1 W1 #[.int .i64 1, .int .i64 0, .bool false] 89
  rw [hE2]
  clear hE2
  go_frame
  go_wp2_with (first
    | (go_at_call 30; refine (barep_any newFl n _ _ hn1 hn4 hX2).mono ?_; rintro e W3 ⟨v3, rfl, hO3, b3⟩; obtain ⟨g3, cap3, rfl⟩ := EO.at0 hO3 (by rw [List.length_replicate]; omega); rw [List.length_replicate]; go_frame)
    | (go_at_call 32; refine (least_any _).mono ?_; rintro e W4 ⟨rfl, b4⟩; go_frame))
  have hwr : wrap64 ((k : Int) * sh) = (c : Int) := by rw [HM.out]; unfold wrap64; omega
  rw [hwr]
  clear hwr
  obtain ⟨W5, hE5, hX5, b5⟩ := blk1 W4 #[.int .i64 (-9223372036854775808), .int .i64 (-9223372036854775808)] 38
  rw [hE5]
  clear hE5
  refine (srepeat_any lstP c _ _ hcl1 hcl hX5).mono ?_
  rintro e W6 ⟨v6, rfl, hO6, b6⟩
  obtain ⟨g6, cap6, rfl⟩ := EO.at0 hO6 (by rw [List.length_replicate]; omega)
  rw [List.length_replicate]
  have b12 := ab_trans b1 b2
  have b13 := ab_trans b12 b3
  have b14 := ab_trans b13 b4
  have b15 := ab_trans b14 b5
  have b16 := ab_trans b15 b6
  have HIo : Hid (Io W6 w.heap.size (.slice q1 k cap1) res) := HO1.out.keep (ab_trans (ab_trans (ab_trans (ab_trans b2 b3) b4) b5) b6)
  have hR3 := (EO.rw hO3).1
  have hG3 := (EO.rw hO3).2
  have HR3 : Hid (Rw E3f 89 W6 g3 cap3 (List.replicate n newFl) ∧ w.heap.size ≤ g3) := ⟨hR3.keep (ab_trans (ab_trans b4 b5) b6), Nat.le_trans b12.size hG3⟩
  have HR6 : Hid (Rw E2 38 W6 g6 cap6 (List.replicate c lstP) ∧ w.heap.size ≤ g6) := ⟨(EO.rw hO6).1, Nat.le_trans b15.size (EO.rw hO6).2⟩
  have HB : Hid (Below w.heap.size w W6) := b16
  clear hO3 hO6 hR3 hG3 b1 b2 b3 b4 b5 b6 b12 b13 b14 b15 b16 hX2 hX5 HO1
  go_wp2_with fail
  go_ret2
  have bM : Below W6.heap.size W6 (W6.alloc (.map #[] 0)) := ab_alloc (Below.refl _ _) _
  have bC : Below W6.heap.size W6 ((W6.alloc (.map #[] 0)).alloc (.cells #[.slice q1 k cap1, .int .i64 sh, .int .i64 mo, .slice (some ⟨g3, 0, none⟩) n cap3, .slice (some ⟨g6, 0, none⟩) c cap6, .map (some W6.heap.size)] 93)) := ab_alloc bM _
  have hsz : (W6.alloc (.map #[] 0)).heap.size = W6.heap.size + 1 := by simp
  have hBk := Blk.new (W6.alloc (.map #[] 0)) #[.slice q1 k cap1, .int .i64 sh, .int .i64 mo, .slice (some ⟨g3, 0, none⟩) n cap3, .slice (some ⟨g6, 0, none⟩) c cap6, .map (some W6.heap.size)] 93
  rw [hsz] at hBk
  have hCm := (cm_new W6 (fun _ => zc)).keep (ab_alloc (Below.refl _ _) (.cells #[.slice q1 k cap1, .int .i64 sh, .int .i64 mo, .slice (some ⟨g3, 0, none⟩) n cap3, .slice (some ⟨g6, 0, none⟩) c cap6, .map (some W6.heap.size)] 93))
  have hok := HOK.out
  rw [HNB.out] at hok ⊢
  have hB6 := HB.out.size
  refine ⟨⟨⟨W6.heap.size + 1, W6.heap.size, g3, cap3, g6, cap6, .slice q1 k cap1⟩, rfl, ⟨?_, by show w.heap.size ≤ W6.heap.size + 1; omega, HIo.out.keep bC, HR3.out.1.keep bC, HR3.out.2, HR6.out.1.keep bC, HR6.out.2, hCm, hB6, hok⟩⟩, ab_trans HB.out bC⟩
  show Blk _ (W6.heap.size + 1) (bsC _ sh mo (List.replicate n newFl).length (List.replicate c lstP).length) _
  rw [List.length_replicate, List.length_replicate]
  exact hBk
end Go.Proofs.Ytoeilckeebojmaa
