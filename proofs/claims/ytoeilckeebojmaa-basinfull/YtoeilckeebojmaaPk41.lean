/-
  Basin's take.
-/
import Derived.Test.YtoeilckeebojmaaPk40
namespace Go.Proofs.Ytoeilckeebojmaa
open Go.RowKit Go.Maps
set_option linter.unusedVariables false
set_option maxRecDepth 100000

def tkE (r : Bsn × Option Int) : Nat := match r.2 with | some _ => 7 | none => 0
def tkN (la : Int) (r : Bsn × Option Int) : Int := match r.2 with | some s => s | none => wrap64 (la + 1)
theorem pncB_at {S : Bsn} {i : Nat} {f : Flw} (t : Int) (h : S.fl[i]? = some f) : pncB S i t = { S with fl := S.fl.set i (pncF f t) } := by unfold pncB; rw [h]
theorem nxtB_at {S : Bsn} {i : Nat} {f : Flw} (n : Int) (h : S.fl[i]? = some f) : nxtB S i n = { S with fl := S.fl.set i { f with nx := n } } := by unfold nxtB; rw [h]
theorem pou_fl (S : Bsn) (src : Int) (o : Op5) : (pouB S src o).fl = S.fl := (fold_same _ _ _).2.2.2.1
theorem stp_mark {i : Nat} {S : Bsn} {o : Op5} (h : o.k = 2) : stpB i (S, none) o = (pncB S i o.t, none) := by unfold stpB; simp [h]
theorem stp_pour {i : Nat} {S : Bsn} {o : Op5} (h : o.k ≠ 2) (hr : rooB S o = true) : stpB i (S, none) o = (pouB S (i : Int) o, none) := by unfold stpB; simp [h, hr]
theorem stp_full {i : Nat} {S : Bsn} {o : Op5} (h : o.k ≠ 2) (hr : rooB S o = false) : stpB i (S, none) o = (S, some o.s) := by unfold stpB; simp [h, hr]
theorem tak_snoc {i : Nat} {S T : Bsn} {ops : List Op5} {k : Nat} {o : Op5} (h : takB S i (ops.take k) = (T, none)) (ho : ops[k]? = some o) : takB S i (ops.take (k + 1)) = stpB i (T, none) o := by
  unfold takB at *
  rw [List.take_add_one, ho]
  simp only [Option.toList_some, List.foldl_append, List.foldl_cons, List.foldl_nil, h]
theorem tak_full {i : Nat} {S T : Bsn} {ops : List Op5} {k : Nat} {s : Int} (h : takB S i (ops.take (k + 1)) = (T, some s)) : takB S i ops = (T, some s) := by
  unfold takB at *
  rw [← List.take_append_drop (k + 1) ops, List.foldl_append, h]
  exact stp_stuck i s _ _
theorem src_J {S : Bsn} (h : Okb S) {i : Nat} (hi : i < S.fl.length) : J64 (i : Int) := by have := h.f1; unfold J64; omega
/-- The next number stored. -/
theorem Bq.setnx {w W : World} {B : Nat} {K : Bkk} {T : Bsn} {i : Nat} {f : Flw} (hB : Bq W B K T) (hF : Frm (bkB K) w W) (hfi : T.fl[i]? = some f) {nx : Int} (hnJ : J64 nx) :
    Bq (W.setCell ⟨K.gf, i * 3, none⟩ (.int .i64 nx)) B K (nxtB T i nx) ∧ Frm (bkB K) w (W.setCell ⟨K.gf, i * 3, none⟩ (.int .i64 nx)) := by
  have hC : Chg K.gf W (W.setCell ⟨K.gf, i * 3, none⟩ (.int .i64 nx)) := chg_set _ _ _ _
  have hFC : Frm (bkB K) W (W.setCell ⟨K.gf, i * 3, none⟩ (.int .i64 nx)) := frm_chg hC (.inl rfl)
  have hok := okb_nxt hB.ok (i := i) hnJ
  have hs := hB.fe.setc (c' := { f with nx := nx }) (j := 0) (v := .int .i64 nx) hfi (by show 0 < 3; omega) rfl
  rw [Nat.add_zero] at hs
  rw [nxtB_at nx hfi] at hok ⊢
  exact ⟨hB.upd hFC rfl rfl rfl (by simp) rfl hs (rw_at hB.be (hC.other _ hB.nfb.symm)) (hB.ce.at (hC.other _ hB.nfm.symm)) hok, hF.trans hFC⟩
set_option maxHeartbeats 4000000 in
theorem batake_any {B : Nat} {K : Bkk} {S : Bsn} (i : Nat) (la : Int) (vo : Value) (ops : List Op5) (w : World) (h : Bq w B K S) (hi : i < S.fl.length) (hO : ∀ V, Frm (bkB K) w V → ER E5 V vo ops) (hf : ∀ o ∈ ops, Fit5 o) (hla : J64 la) :
    Calls Try.prog 37 #[bptr K, .int .i64 (i : Int), .int .i64 la, vo] w fun e w' => e = .returned (errV (tkE (takB S i ops))) ∧ Bq w' B K (nxtB (takB S i ops).1 i (tkN la (takB S i ops))) ∧ Frm (bkB K) w w' := by
  obtain ⟨-, -, -, c3, -, -⟩ := h.cells w (Below.refl _ _)
  obtain ⟨q, cap, hvo⟩ := (hO w (Frm.refl _ _)).form
  have HO : Hid (∀ V, Frm (bkB K) w V → ER E5 V (.slice q ops.length cap) ops) := fun V hb => by rw [← hvo]; exact hO V hb
  rw [hvo]
  clear hvo hO
  have HB : Hid (Bq w B K S) := h
  have HI : Hid (J64 (i : Int)) := src_J h.ok hi
  have hli : (i : Int) < (S.fl.length : Int) := by omega
  clear h
  generalize hnf : S.fl.length = nf at *
  generalize hn : ops.length = n at *
  have hcap : Hid (n ≤ cap ∧ cap ≤ 9223372036854775807) := by
    obtain ⟨q', cap', g, off, e, h1, h2, -⟩ := HO.out w (Frm.refl _ _)
    injection e with _ e1 e2
    subst e2
    rw [hn] at h1
    exact ⟨h1, h2⟩
  have hn63 : (n : Int) ≤ 9223372036854775807 := by have := hcap.out; omega
  obtain ⟨b, m, gf, cf, gb, cb, vr⟩ := K
  try dsimp only at *
  have HF0 : Hid (Frm (bkB ⟨b, m, gf, cf, gb, cb, vr⟩) w w) := Frm.refl _ _
  go_enter Try.func37, Try.ntmps37
  go_wp2_with fail
  go_step3
  go_wp2_with fail
  go_step3
  go_wp2_with fail
  have HNX : Hid (∃ x, wrap64 (la + 1) = x ∧ J64 x) := ⟨_, rfl, by unfold J64 wrap64; omega⟩
  obtain ⟨nx, hnx, hnJ⟩ := HNX.out
  rw [hnx]
  have HX : Hid (wrap64 (la + 1) = nx) := hnx
  clear HNX hnx hla
  go_loopw [10, 11, 24] (fun x y z wr => ∃ (k : Nat) (T : Bsn), k ≤ n ∧ z = .int .i64 (k : Int) ∧ x = .int .i64 nx ∧ y = .nilIface ∧ takB S i (ops.take k) = (T, none) ∧ T.fl.length = nf ∧ Bq wr B ⟨b, m, gf, cf, gb, cb, vr⟩ T ∧ Frm (bkB ⟨b, m, gf, cf, gb, cb, vr⟩) w wr) (fun _ _ z _ => n - (intOf z).toNat)
  case atStart => exact ⟨0, S, by omega, rfl, rfl, rfl, rfl, hnf, HB.out, HF0.out⟩
  case round =>
    obtain ⟨k, T, hk, rfl, rfl, rfl, hT, hTl, hB, hF⟩ := hrel
    clear c3 HB HF0
    have HT : Hid (takB S i (ops.take k) = (T, none)) := hT
    clear hT
    obtain ⟨f, hfi⟩ : ∃ f, T.fl[i]? = some f := ⟨T.fl[i]'(by omega), List.getElem?_eq_getElem (by omega)⟩
    by_cases hkn : k = n
    · subst hkn
      have HE : Hid (takB S i ops = (T, none)) := by have := HT.out; rw [List.take_of_length_le (by omega)] at this; exact this
      have fz : wr.frozen? ⟨gf, i * 3, none⟩ = false := hB.fe.chgc (i * 3)
      have cz : wr.cell? ⟨gf, i * 3, none⟩ = some (.int .i64 f.nx) := hB.fe.cell (i := 0) hfi rfl
      have HQ : Hid (Bq (wr.setCell ⟨gf, i * 3, none⟩ (.int .i64 nx)) B ⟨b, m, gf, cf, gb, cb, vr⟩ (nxtB T i nx) ∧ Frm (bkB ⟨b, m, gf, cf, gb, cb, vr⟩) w (wr.setCell ⟨gf, i * 3, none⟩ (.int .i64 nx))) := by
        exact hB.setnx hF hfi hnJ
      clear hB hF hfi
      go_wp2_with fail
      try rw [Exit.noGoto_ret]
      go_ret
      exact ⟨by rw [HE.out]; rfl, by rw [HE.out]; show Bq _ _ _ (nxtB T i (wrap64 (la + 1))); rw [HX.out]; exact HQ.out.1, HQ.out.2⟩
    · have hlt : k < ops.length := by omega
      obtain ⟨o, ho⟩ : ∃ o, ops[k]? = some o := ⟨ops[k], List.getElem?_eq_getElem hlt⟩
      have hki : (k : Int) < (n : Int) := by omega
      have HS : Hid (takB S i (ops.take (k + 1)) = stpB i (T, none) o) := tak_snoc HT.out ho
      have hfo : Fit5 o := hf o (List.mem_of_getElem? ho)
      obtain ⟨q', cap', g, off, eq', -, -, hp, hr⟩ := (HO.out wr hF).at
      rw [hn] at eq'
      injection eq' with e1 _ e3
      subst e1
      subst e3
      rw [hn] at hp
      obtain ⟨rfl, hgk⟩ := hp (by omega)
      have z0 := hr k o ho 0 _ rfl
      have z1 := hr k o ho 1 _ rfl
      have z2 := hr k o ho 2 _ rfl
      have z3 := hr k o ho 3 _ rfl
      have z4 := hr k o ho 4 _ rfl
      rw [Nat.add_zero, show E5.k = 5 from rfl] at z0
      rw [show E5.k = 5 from rfl] at z1 z2 z3 z4
      obtain ⟨A, hE, hX, hw⟩ := blk1 wr (opA o) 27
      have y0 : A.cell? ⟨wr.heap.size, 0, none⟩ = some (.int .i64 o.s) := hX.at rfl
      have y1 : A.cell? ⟨wr.heap.size, 1, none⟩ = some (.int .i64 o.k) := hX.at rfl
      have y2 : A.cell? ⟨wr.heap.size, 2, none⟩ = some (.int .i64 o.t) := hX.at rfl
      have y3 : A.cell? ⟨wr.heap.size, 3, none⟩ = some (.int .i64 o.y) := hX.at rfl
      have y4 : A.cell? ⟨wr.heap.size, 4, none⟩ = some (.int .i64 o.v) := hX.at rfl
      have hBA := hB.keep hw
      have hFA := hF.trans (frm_below hw)
      unfold opA at hE
      have HML : Hid (m < wr.heap.size) := hB.ce.lt
      clear hr hp ho HT hlt hF hB
      by_cases hm : o.k = 2
      · have HP := bapunc_any o.t A hBA.fe hfi
        have HS' : Hid (takB S i (ops.take (k + 1)) = (pncB T i o.t, none)) := by show _ = _; rw [HS.out, stp_mark hm]
        have hk2 : (o.k == 2) = true := by simp [hm]
        have HL : Hid ((pncB T i o.t).fl.length = nf) := by show _ = _; rw [pncB_at _ hfi]; simp [hTl]
        clear hm HS
        go_wp2_with (go_at_call 53; refine HP.mono ?_; rintro e W2 ⟨rfl, hR2, C2⟩)
        have hFC : Frm (bkB ⟨b, m, gf, cf, gb, cb, vr⟩) A W2 := frm_chg C2 (.inl rfl)
        have hok := okb_pnc hBA.ok (i := i) hfo.t
        have hB2 : Bq W2 B ⟨b, m, gf, cf, gb, cb, vr⟩ (pncB T i o.t) := by
          rw [pncB_at _ hfi] at hok ⊢
          exact hBA.upd hFC rfl rfl rfl (by simp) rfl hR2 (rw_at hBA.be (C2.other _ hBA.nfb.symm)) (hBA.ce.at (C2.other _ hBA.nfm.symm)) hok
        go_roundw
        case rel => exact ⟨k + 1, _, by omega, by go_num, rfl, rfl, HS'.out, HL.out, hB2, hFA.trans hFC⟩
        case measure => simp [intOf]; omega
      · have HP := bapour_any (i : Int) o A hBA hfo HI.out
        have hk2 : (o.k == 2) = false := by simp [hm]
        unfold opV opA at HP
        cases hro : rooB T o
        · have HS' : Hid (takB S i ops = (T, some o.s)) := by
            have := HS.out
            rw [stp_full hm hro] at this
            exact tak_full this
          rw [hro] at HP
          have HPS : Hid (pouS T (i : Int) o = T) := pouS_no hro
          clear HS hm hro
          have hml : wr.heap.size ≠ m := by have := hBA.ce.lt; have hz := HML.out; omega
          go_upto_region 11 with (go_at_call 54; refine HP.mono ?_; rintro e W2 ⟨rfl, hB2, hF2⟩; have g0 : W2.cell? ⟨wr.heap.size, 0, none⟩ = some (.int .i64 o.s) := (hX.frm hF2 hml).at rfl)
          rw [HPS.out] at hB2
          have hFF := hFA.trans (hF2.mono fun k hk => .inr (.inr hk))
          have fz : W2.frozen? ⟨gf, i * 3, none⟩ = false := hB2.fe.chgc (i * 3)
          have cz : W2.cell? ⟨gf, i * 3, none⟩ = some (.int .i64 f.nx) := hB2.fe.cell (i := 0) hfi rfl
          have HQ : Hid (Bq (W2.setCell ⟨gf, i * 3, none⟩ (.int .i64 o.s)) B ⟨b, m, gf, cf, gb, cb, vr⟩ (nxtB T i o.s) ∧ Frm (bkB ⟨b, m, gf, cf, gb, cb, vr⟩) w (W2.setCell ⟨gf, i * 3, none⟩ (.int .i64 o.s))) := hB2.setnx hFF hfi hfo.s
          clear hB2 hFF hF2 hfi hBA hFA hX hE
          go_wp2_with fail
          try rw [Exit.noGoto_ret]
          go_ret
          exact ⟨by rw [HS'.out]; rfl, by rw [HS'.out]; exact HQ.out.1, HQ.out.2⟩
        · have HS' : Hid (takB S i (ops.take (k + 1)) = (pouB T (i : Int) o, none)) := by show _ = _; rw [HS.out, stp_pour hm hro]
          rw [hro] at HP
          have HPS : Hid (pouS T (i : Int) o = pouB T (i : Int) o) := pouS_yes hro
          have HL : Hid ((pouB T (i : Int) o).fl.length = nf) := by show _ = _; rw [pou_fl]; exact hTl
          clear HS hm hro
          go_wp2_with (go_at_call 54; refine HP.mono ?_; rintro e W2 ⟨rfl, hB2, hF2⟩)
          rw [HPS.out] at hB2
          have hFF := hFA.trans (hF2.mono fun k hk => .inr (.inr hk))
          go_roundw
          case rel => exact ⟨k + 1, _, by omega, by go_num, rfl, rfl, HS'.out, HL.out, hB2, hFF⟩
          case measure => simp [intOf]; omega
end Go.Proofs.Ytoeilckeebojmaa
