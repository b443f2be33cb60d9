/-
  The document's basin: Feed in form, at the number that is next.
-/
import Derived.Test.YtogbhiklhcibdaaPk46
namespace Go.Proofs.Ytogbhiklhcibdaa
open Go.RowKit
set_option linter.unusedVariables false
set_option maxRecDepth 100000

theorem built_smp (s : Int) (o : Op5) : Try.prog.built 43 [(0, .int .i64 s), (1, .agg #[.int .i64 o.s, .int .i64 o.k, .int .i64 o.t, .int .i64 o.y, .int .i64 o.v])] = some #[.int .i64 s, .int .i64 o.s, .int .i64 o.k, .int .i64 o.t, .int .i64 o.y, .int .i64 o.v] := by kernel_rfl
theorem built_tok (k : Kyy) (s : Int) (o : Op5) : Try.prog.built 110 [(0, .agg #[.int .i64 k.1, .int .i64 k.2.1, .int .i64 k.2.2]), (1, .agg #[.int .i64 s, .int .i64 o.s, .int .i64 o.k, .int .i64 o.t, .int .i64 o.y, .int .i64 o.v])] = some (tkA (k, s, o)) := by kernel_rfl
theorem tokL_snoc (src : Int) (o : Op5) (l : List Kyy) (k : Kyy) : tokL src o (l ++ [k]) = tokL src o l ++ [(k, src, o)] := by unfold tokL; rw [List.map_append]; rfl
/-- What the fed basin leaves, of the operations so far. -/
structure FdR (R0 R' : R6) (i k : Nat) (ops : List Op5) : Prop where
  tk : takR R0 i (ops.take k) = (R', none)
  kp : KpR R0 R'
  few : R'.tk.length ≤ R0.tk.length + 3 * k
  ms : ∀ (l' : List Int), R'.ms[i]? = some l' → ∃ l, R0.ms[i]? = some l ∧ l'.length ≤ l.length + k
theorem fdR_0 (R0 : R6) (i : Nat) (ops : List Op5) : FdR R0 R0 i 0 ops := ⟨rfl, KpR.refl _, by omega, fun l hl => ⟨l, hl, by omega⟩⟩
theorem FdR.mark {R0 R' : R6} {i k : Nat} {ops : List Op5} {o : Op5} (h : FdR R0 R' i k ops) (ho : ops[k]? = some o) (hk : o.k = 2) (hi : i < R'.ms.length) : FdR R0 (mrkR R' i o.t) i (k + 1) ops := by
  refine ⟨by rw [takR_snoc h.tk ho, stpR_mark hk], h.kp.trans (kpR_mark _), by show R'.tk.length ≤ _; have := h.few; omega, fun l' hl' => ?_⟩
  obtain ⟨m, hm⟩ : ∃ m, R'.ms[i]? = some m := ⟨R'.ms[i], List.getElem?_eq_getElem hi⟩
  rw [mrkR_at o.t hm] at hl'
  have h1 : (R'.ms.set i (m ++ [o.t]))[i]? = some l' := hl'
  rw [List.getElem?_set_self hi] at h1
  cases h1
  obtain ⟨l, h2, h3⟩ := h.ms m hm
  exact ⟨l, h2, by rw [List.length_append, List.length_singleton]; omega⟩
theorem FdR.add {R0 R' : R6} {i k : Nat} {ops : List Op5} {o : Op5} (h : FdR R0 R' i k ops) (hr : R0.res.length ≤ 3) (ho : ops[k]? = some o) (hk : o.k ≠ 2) (hroo : rooR R' (i : Int) o = true) : FdR R0 (addR R' (i : Int) o) i (k + 1) ops := by
  have h1 := addR_len (R := R') (src := (i : Int)) (o := o) (by rw [h.kp.res]; exact hr)
  refine ⟨by rw [takR_snoc h.tk ho, stpR_pour hk hroo], h.kp.trans (kpR_add _ _ _), by have := h.few; omega, fun l' hl' => ?_⟩
  obtain ⟨l, h2, h3⟩ := h.ms l' hl'
  exact ⟨l, h2, by omega⟩
def fdE6 (r : R6 × Option Int) : Int := match r.2 with | some _ => 7 | none => 0
set_option maxHeartbeats 4000000 in
theorem rfeed16_ok {B : Nat} {K : Rk} {R : R6} (i : Nat) (fr la : Int) (vc vo : Value) (cut : List (Int × Int)) (ops : List Op5) (w : World) (h : Rq w B K R) (hBw : B ≤ w.heap.size)
    (hc : ∀ V, Frm (rkB K) w V → ER E2 V vc cut) (hO : ∀ V, Frm (rkB K) w V → ER E5 V vo ops) (hok : OkR R) (hcl : cut.length = R.ba.length) (hle : wrap64 (fr - 1) ≤ la) (hf : infO ops fr la) (hx : R.nx[i]? = some fr)
    (hoj : ∀ o ∈ ops, Fit5 o) (hT : R.tk.length + 3 * ops.length ≤ 100000) (hM : ∀ l ∈ R.ms, l.length + ops.length ≤ 100000) :
    Calls Try.prog 18 #[r6ptr K, .int .i64 (i : Int), .int .i64 fr, .int .i64 la, vc, vo] w fun e w' => ∃ vt us, e = .returned (.int .i64 (fdE6 (fdR6 R i cut ops))) ∧ Rq w' B { K with vt := vt, us := us } (fdZ6 R i la cut ops) ∧ Frm (rkB K) w w' := by
  have hi : i < R.nx.length := (List.getElem?_eq_some_iff.1 hx).1
  have hli : (i : Int) < (R.nx.length : Int) := by omega
  have hlg : ¬ (R.nx.length : Int) ≤ (i : Int) := by omega
  have h03 : ¬ ((i : Int) < 0) := by omega
  have c2b : ((cut.length : Int) != (R.ba.length : Int)) = false := by simp [hcl]
  have c3 : ¬ la < wrap64 (fr - 1) := by omega
  obtain ⟨qc, cc, ec⟩ := (hc w (Frm.refl _ _)).form
  obtain ⟨qo, co, eo⟩ := (hO w (Frm.refl _ _)).form
  have HCu : Hid (∀ V, Frm (rkB K) w V → ER E2 V (.slice qc cut.length cc) cut) := fun V hb => by rw [← ec]; exact hc V hb
  have HOp : Hid (∀ V, Frm (rkB K) w V → ER E5 V (.slice qo ops.length co) ops) := fun V hb => by rw [← eo]; exact hO V hb
  have HCl : Hid (cut.length = R.ba.length) := hcl
  have HF : Hid (infO ops fr la) := hf
  have HX : Hid (R.nx[i]? = some fr) := hx
  have HB : Hid (Rq w B K R ∧ B ≤ w.heap.size) := ⟨h, hBw⟩
  have HOK : Hid (OkR R) := hok
  have HT : Hid (R.tk.length + 3 * ops.length ≤ 100000) := hT
  have HM : Hid (∀ l ∈ R.ms, l.length + ops.length ≤ 100000) := hM
  have HI : Hid (i < R.nx.length) := hi
  have x3 := h.cells.2.2.2.1
  have x5 := h.cells.2.2.2.2.2.1
  have hcc : cut.length ≤ cc := by
    obtain ⟨q', c', g, off, e1, e2, -⟩ := hc w (Frm.refl _ _)
    rw [ec] at e1
    injection e1 with _ _ e3
    omega
  have hoo : ops.length ≤ co := by
    obtain ⟨q', c', g, off, e1, e2, -⟩ := hO w (Frm.refl _ _)
    rw [eo] at e1
    injection e1 with _ _ e3
    omega
  have hn63 : (ops.length : Int) ≤ 9223372036854775807 := by omega
  have hc12 : cut.length ≤ 12 := by have := hok.lan; omega
  rw [ec, eo]
  clear hc hO ec eo h hBw hok hcl hle hf hx hT hM hi
  generalize hnc : cut.length = nc at *
  generalize hno : ops.length = no at *
  generalize hnb : R.ba.length = nb at *
  generalize hnn : R.nx.length = nn at *
  have HNb : Hid (R.ba.length = nb) := hnb
  have HNn : Hid (R.nx.length = nn) := hnn
  have HNc : Hid (cut.length = nc) := hnc
  have HNo : Hid (ops.length = no) := hno
  clear hnb hnn
  obtain ⟨b, gn, cn, gm, cm, gb, cb, vr, vt, us⟩ := K
  try dsimp only at *
  go_enter Try.func18, Try.ntmps18
  go_upto_region 4 with fail
  clear c3 c2b x5 hlg
  go_wp2_with fail
  go_loopw [14] (fun z wr => ∃ k : Nat, k ≤ no ∧ z = .int .i64 (k : Int) ∧ Below w.heap.size w wr) (fun z _ => no - (intOf z).toNat)
  case atStart => exact ⟨0, by omega, rfl, Below.refl _ _⟩
  case round =>
    obtain ⟨k, hk, rfl, hw⟩ := hrel
    by_cases ck : k = no
    · have ck' : no = k := ck.symm
      subst ck'
      have hQ := HB.out.1.keep hw
      have HBw := HB.out.2
      have y3 := hQ.cells.2.2.2.1
      rw [HNn.out] at y3
      have yn : wr.cell? ⟨gn, i, none⟩ = some (.int .i64 fr) := by
        have := hQ.ne.cell HX.out (i := 0) (u := .int .i64 fr) rfl
        simpa [show E1.k = 1 from rfl] using this
      have cf : (fr != fr) = false := by simp
      have HQ0 : Hid (Rq wr B ⟨b, gn, cn, gm, cm, gb, cb, vr, vt, us⟩ (cutR R cut 0) ∧ Frm (rkB ⟨b, gn, cn, gm, cm, gb, cb, vr, vt, us⟩) w wr) := ⟨hQ, frm_below hw⟩
      clear hQ x3 hw
      go_upto_region 10 with fail
      clear y3 yn cf
      go_wp2_with fail
      go_loopw [15] (fun z wr => ∃ (k : Nat) (vt' : Value), k ≤ nc ∧ z = .int .i64 (k : Int) ∧ Rq wr B ⟨b, gn, cn, gm, cm, gb, cb, vr, vt', us⟩ (cutR R cut k) ∧ Frm (rkB ⟨b, gn, cn, gm, cm, gb, cb, vr, vt, us⟩) w wr) (fun z _ => nc - (intOf z).toNat)
      case atStart => exact ⟨0, vt, by omega, rfl, HQ0.out.1, HQ0.out.2⟩
      case round =>
        clear HQ0
        obtain ⟨j, vt', hj, rfl, hQ, hF⟩ := hrel
        by_cases cj : j = nc
        · have cj' : nc = j := cj.symm
          subst cj'
          obtain ⟨kp, kt, km⟩ := kpR_cut R cut nc
          have HQ0 : Hid (Rq wr B ⟨b, gn, cn, gm, cm, gb, cb, vr, vt', us⟩ (cutR R cut nc) ∧ Frm (rkB ⟨b, gn, cn, gm, cm, gb, cb, vr, vt, us⟩) w wr) := ⟨hQ, hF⟩
          have HK1 : Hid (KpR R (cutR R cut nc) ∧ (cutR R cut nc).tk.length ≤ R.tk.length ∧ (cutR R cut nc).ms = R.ms) := ⟨kp, kt, km⟩
          have HC1 : Hid (cutR R cut nc = cutR R cut cut.length) := by show _ = _; rw [HNc.out]
          clear hQ hF kp kt km
          generalize cutR R cut nc = R1 at *
          go_wp2_with fail
          go_loopw [16] (fun z wr => ∃ (k : Nat) (vt' : Value) (us' : List Sv) (R' : R6), k ≤ no ∧ z = .int .i64 (k : Int) ∧ FdR R1 R' i k ops ∧ Rq wr B ⟨b, gn, cn, gm, cm, gb, cb, vr, vt', us'⟩ R' ∧ UsG w us us' ∧ Frm (rkB ⟨b, gn, cn, gm, cm, gb, cb, vr, vt, us⟩) w wr) (fun z _ => no - (intOf z).toNat)
          case atStart => exact ⟨0, vt', us, R1, by omega, rfl, fdR_0 _ _ _, HQ0.out.1, UsG.refl _ _, HQ0.out.2⟩
          case round =>
            clear HQ0
            obtain ⟨m, vt2, us2, R2, hm, rfl, hfd, hQ, hU, hF⟩ := hrel
            by_cases cmm : m = no
            · have cm' : no = m := cmm.symm
              subst cm'
              have HE : Hid (takR R1 i ops = (R2, none)) := by have := hfd.tk; rw [List.take_of_length_le (by omega)] at this; exact this
              have hx2 : R2.nx[i]? = some fr := by rw [hfd.kp.nx, HK1.out.1.nx]; exact HX.out
              have z3 := hQ.cells.2.2.2.1
              rw [show R2.nx.length = nn by rw [hfd.kp.nx, HK1.out.1.nx]; exact HNn.out] at z3
              have fz : wr.frozen? ⟨gn, i, none⟩ = false := hQ.ne.chgc i
              have cz : wr.cell? ⟨gn, i, none⟩ = some (.int .i64 fr) := by
                have := hQ.ne.cell hx2 (i := 0) (u := .int .i64 fr) rfl
                simpa [show E1.k = 1 from rfl] using this
              have HQ : Hid (∀ x, Rq (wr.setCell ⟨gn, i, none⟩ (.int .i64 x)) B ⟨b, gn, cn, gm, cm, gb, cb, vr, vt2, us2⟩ (nxR R2 i x) ∧ Frm (rkB ⟨b, gn, cn, gm, cm, gb, cb, vr, vt, us⟩) w (wr.setCell ⟨gn, i, none⟩ (.int .i64 x))) := fun x => by
                have hs := hQ.ne.setc (c' := x) (j := 0) (v := .int .i64 x) hx2 (by show 0 < 1; omega) rfl
                rw [Nat.add_zero, show E1.k = 1 from rfl, Nat.mul_one] at hs
                have hC := chg_set wr gn i (.int .i64 x)
                exact ⟨hQ.upn (by rw [List.length_set]) hs hC, hF.trans (frm_chg hC (.inr (.inl rfl)))⟩
              clear hQ hF hfd hx2
              go_wp2_with fail
              go_ret
              exact ⟨by unfold fdE6 fdR6; rw [← HC1.out, HE.out]; rfl, ⟨vt2, us2, by unfold fdZ6 fdR6; rw [← HC1.out, HE.out]; exact (HQ.out _).1⟩, (HQ.out _).2⟩
            · obtain ⟨o, ho⟩ : ∃ o, ops[m]? = some o := ⟨ops[m]'(by omega), List.getElem?_eq_getElem (by omega)⟩
              obtain ⟨q', cap', g, off, eq', -, -, hp, hr⟩ := (HOp.out wr hF).at
              rw [hno] at eq'
              injection eq' with e1 _ e3
              subst e1
              subst e3
              rw [hno] at hp
              obtain ⟨rfl, hgk⟩ := hp (by omega)
              have hki : (m : Int) < (no : Int) := by omega
              have z0 := hr m o ho 0 _ rfl
              have z1 := hr m o ho 1 _ rfl
              have z2 := hr m o ho 2 _ rfl
              have z3 := hr m o ho 3 _ rfl
              have z4 := hr m o ho 4 _ rfl
              rw [Nat.add_zero, show E5.k = 5 from rfl] at z0
              rw [show E5.k = 5 from rfl] at z1 z2 z3 z4
              have hfo : Fit5 o := hoj o (List.mem_of_getElem? ho)
              have HO1 : Hid (ops[m]? = some o) := ho
              obtain ⟨os, ok, ot, oy, ov⟩ := o
              try dsimp only at z0 z1 z2 z3 z4
              clear hr hp ho
              go_upto_region 19 with (first
                | (refine al_blk rfl rfl (opA ⟨0, 0, 0, 0, 0⟩) (op_zero _) ?_; intro W5 e5 hX5 b5)
                | (refine st_blk rfl rfl hX5 rfl (vs := opA ⟨os, ok, ot, oy, ov⟩) rfl (infoO5 ⟨os, ok, ot, oy, ov⟩) rfl (opA_one _) ?_; intro W6 hX6 C6))
              have bw6 := ab_chg b5 C6 (Nat.le_refl _)
              have hQ6 := hQ.keep bw6
              have hF6 := hF.trans (frm_below bw6)
              have hB6 : B ≤ W6.heap.size := Nat.le_trans HB.out.2 hF6.size
              have a1 : W6.cell? ⟨wr.heap.size, 1, none⟩ = some (.int .i64 ok) := hX6.at rfl
              have hbx := hX6.lt
              have hwb : w.heap.size ≤ wr.heap.size := hF.size
              clear z0 z1 z2 z3 z4 e5 hX5 C6 hQ hF b5 bw6
              generalize wr.heap.size = bx at *
              by_cases hk2 : ok = 2
              · have hk2b : (ok == 2) = true := by simp [hk2]
                have hi2 : i < R2.ms.length := by
                  rw [hfd.kp.ml, HK1.out.1.ml]
                  have e1 := HOK.out.mn
                  have e2 := HNn.out
                  have e3 := HI.out
                  omega
                obtain ⟨u, hu⟩ : ∃ u, us2[i]? = some u := ⟨us2[i]'(by have := hQ6.ml; dsimp only at this; omega), List.getElem?_eq_getElem _⟩
                obtain ⟨l, hl⟩ : ∃ l, R2.ms[i]? = some l := ⟨R2.ms[i], List.getElem?_eq_getElem hi2⟩
                have hui := hQ6.ms i u l hu hl
                obtain ⟨qu, nu, cu⟩ := u
                have HFd : Hid (FdR R1 (mrkR R2 i ot) i (m + 1) ops) := hfd.mark HO1.out hk2 hi2
                have hl5 : l.length ≤ 100000 := by
                  obtain ⟨l0, h0, h1⟩ := hfd.ms l hl
                  rw [HK1.out.2.2] at h0
                  have := HM.out l0 (List.mem_of_getElem? h0)
                  omega
                have hiu : (i : Int) < (us2.length : Int) := by have := hQ6.ml; dsimp only at this; omega
                have HIu : Hid (i < us2.length) := by show _ < _; omega
                have bdr : Below W6.heap.size W6 W6.drew := ab_drew (Below.refl _ _)
                have hQ7 := hQ6.keep bdr
                have hX7 := hX6.keep bdr
                have hui7 := Io.keep hui bdr
                have hF7 := hF6.trans (frm_below bdr)
                have hs7 : W6.heap.size = W6.drew.heap.size := rfl
                have q4 : W6.drew.cell? ⟨b, 4, none⟩ = some (.slice (some ⟨gm, 0, none⟩) us2.length cm) := hQ7.cells.2.2.2.2.1
                have qi : W6.drew.cell? ⟨gm, i, none⟩ = some (.slice qu nu cu) := by
                  have := hQ7.me.cell hu (i := 0) (u := svV (qu, nu, cu)) rfl
                  simpa [show ESv.k = 1 from rfl, svV] using this
                have q2 : W6.drew.cell? ⟨bx, 2, none⟩ = some (.int .i64 ot) := hX7.at rfl
                clear hQ6 hX6 hui hF6 hfd hk2 bdr
                go_upto_region 20 with fail
                refine region_L 17 (S := fun w' => w'.cell? ⟨b, 4, none⟩ = some (.slice (some ⟨gm, 0, none⟩) us2.length cm) ∧ w'.cell? ⟨gm, i, none⟩ = some (.slice qu nu cu) ∧ w'.cell? ⟨bx, 2, none⟩ = some (.int .i64 ot)) (by kernel_rfl) ⟨q4, qi, q2⟩ (fun hHeld => ?_)
                clear a1 q4 qi q2
                rw [hs7] at hB6 hbx
                clear hs7
                generalize W6.drew = V7 at *
                refine takeP (i := 0) (some 142) (by rfl) rfl rfl (by kernel_rfl) (by kernel_rfl) (by kernel_rfl) (fun _ _ _ h => h) (by rfl) (fun w => by go_simp; try rfl) hHeld ?_
                go_frame
                refine takeP (i := 1) (some 143) (by rfl) rfl rfl (by kernel_rfl) (by kernel_rfl) (by kernel_rfl) (fun _ _ _ h => h) (by rfl) (fun w => by go_simp; try rfl) hHeld ?_
                go_frame
                refine takeP (i := 2) (some 144) (by rfl) rfl rfl (by kernel_rfl) (by kernel_rfl) (by kernel_rfl) (fun _ _ _ h => h) (by rfl) (fun w => by go_simp; try rfl) hHeld ?_
                go_frame
                refine takeL (i := 3) [16, 17] (some 145) (by rfl) rfl rfl (by kernel_rfl) (by kernel_rfl) (by kernel_rfl) (by kernel_rfl) (fun _ _ _ h => h) (by rfl) (fun w hSw => by (try dsimp only at hSw); (obtain ⟨q4, qi, q2⟩ := hSw; go_simp; try rfl)) hHeld ?_
                go_frame
                refine takeP (i := 4) (some 146) (by rfl) rfl rfl (by kernel_rfl) (by kernel_rfl) (by kernel_rfl) (fun _ _ _ h => h) (by rfl) (fun w => by go_simp; try rfl) hHeld ?_
                go_frame
                refine takeP (i := 5) (some 147) (by rfl) rfl rfl (by kernel_rfl) (by kernel_rfl) (by kernel_rfl) (fun _ _ _ h => h) (by rfl) (fun w => by go_simp; try rfl) hHeld ?_
                go_frame
                refine takeP (i := 6) (some 148) (by rfl) rfl rfl (by kernel_rfl) (by kernel_rfl) (by kernel_rfl) (fun _ _ _ h => h) (by rfl) (fun w => by go_simp; try rfl) hHeld ?_
                go_frame
                refine takeP (i := 7) (some 149) (by rfl) rfl rfl (by kernel_rfl) (by kernel_rfl) (by kernel_rfl) (fun _ _ _ h => h) (by rfl) (fun w => by go_simp; try rfl) hHeld ?_
                go_frame
                refine takeL (i := 8) [10, 11, 15, 17] (some 150) (by rfl) rfl rfl (by kernel_rfl) (by kernel_rfl) (by kernel_rfl) (by kernel_rfl) (fun _ _ _ h => h) (by rfl) (fun w hSw => by (try dsimp only at hSw); (obtain ⟨q4, qi, q2⟩ := hSw; go_simp; try rfl)) hHeld ?_
                go_frame
                refine takeP (i := 9) (some 151) (by rfl) rfl rfl (by kernel_rfl) (by kernel_rfl) (by kernel_rfl) (fun _ _ _ h => h) (by rfl) (fun w => by go_simp; try rfl) hHeld ?_
                go_frame
                refine takeP (i := 10) (some 152) (by rfl) rfl rfl (by kernel_rfl) (by kernel_rfl) (by kernel_rfl) (fun _ _ _ h => h) (by rfl) (fun w => by go_simp; try rfl) hHeld ?_
                go_frame
                refine takeL (i := 11) [15, 17] (some 153) (by rfl) rfl rfl (by kernel_rfl) (by kernel_rfl) (by kernel_rfl) (by kernel_rfl) (fun _ _ _ h => h) (by rfl) (fun w hSw => by (try dsimp only at hSw); (obtain ⟨q4, qi, q2⟩ := hSw; go_simp; try rfl)) hHeld ?_
                go_frame
                refine takeP (i := 12) (some 154) (by rfl) rfl rfl (by kernel_rfl) (by kernel_rfl) (by kernel_rfl) (fun _ _ _ h => h) (by rfl) (fun w => by go_simp; try rfl) hHeld ?_
                go_frame
                refine takeL (i := 13) [14, 15, 17] (some 155) (by rfl) rfl rfl (by kernel_rfl) (by kernel_rfl) (by kernel_rfl) (by kernel_rfl) (fun _ _ _ h => h) (by rfl) (fun w hSw => by (try dsimp only at hSw); (obtain ⟨q4, qi, q2⟩ := hSw; go_simp; try rfl)) hHeld ?_
                go_frame
                refine anyL_ready (rs := [14]) (by kernel_rfl) (by simp) (AllL.cons rfl (fun K hK => ?_) AllL.nil)
                rw [if_pos (by rfl)]
                refine bsI1W (some 156) rfl rfl ot (by simp only [List.map_toArray, List.map_cons, List.map_nil]; rfl) fun W8 hB8 b8 => ?_
                have hQ8 := hQ7.keep b8
                have hX8 := hX7.keep b8
                have hui8 := Io.keep hui7 b8
                have hF8 := hF7.trans (frm_below b8)
                have hsz8 := b8.size
                refine hK.out _ _ ⟨hQ8.cells.2.2.2.2.1, by
                  have := hQ8.me.cell hu (i := 0) (u := svV (qu, nu, cu)) rfl
                  simpa [show ESv.k = 1 from rfl, svV] using this, hX8.at rfl⟩ (fun hHeld => ?_)
                clear hK K hQ7 hX7 hui7 hF7 b8
                try go_frame
                refine anyL_ready (rs := [15]) (by kernel_rfl) (by simp) (AllL.cons rfl (fun K hK => ?_) AllL.nil)
                rw [if_pos (by rfl)]
                refine appiBW (some 157) rfl rfl ot rfl hui8 rfl hB8 hl5 (by omega) fun v9 W9 hI9 hg9 ha9 => ?_
                obtain ⟨q9, c9, hv9⟩ := hI9.is.form
                subst hv9
                have kb := hQ8.blk.kindR
                have km := rw_kind hQ8.me
                have kx := hX8.kindR
                have nb1 : some b ≠ (svV (qu, nu, cu)).ownBlock := fun e => io_ne hui8 kb (by decide) e.symm
                have nm1 : some gm ≠ (svV (qu, nu, cu)).ownBlock := fun e => io_ne hui8 km (by decide) e.symm
                have nx1 : some bx ≠ (svV (qu, nu, cu)).ownBlock := fun e => io_ne hui8 kx (by decide) e.symm
                have g4 := (grown_cell (i := 4) hg9 hQ8.blk.lt nb1).trans hHeld.1
                have g5 := (grown_cell (i := i) hg9 hQ8.me.lt nm1).trans hHeld.2.1
                have g6 := (grown_cell (i := 2) hg9 hX8.lt nx1).trans hHeld.2.2
                have hR9 : Rw ESv 38 W9 gm cm us2 := rw_at hQ8.me (hg9.block gm hQ8.me.lt nm1)
                have hFg : Frm (rkB ⟨b, gn, cn, gm, cm, gb, cb, vr, vt, us⟩) w W9 := hF8.young (frm_grownO (X := fun k => (svV (qu, nu, cu)).ownBlock = some k) hg9 (fun g e => e)) (fun k hk e => by
                  rcases hU _ (List.mem_of_getElem? hu) k e with ⟨u0, h0, h1⟩ | h1
                  · exact .inr (.inr (.inr (.inr ⟨u0, h0, h1⟩)))
                  · omega)
                refine hK.out _ _ ⟨g4, g5, g6⟩ (fun hHeld => ?_)
                clear hK K kb km kx nb1 nm1 nx1 g4 g5 g6
                try go_frame
                refine takeP (i := 16) (some 158) (by rfl) rfl rfl (by kernel_rfl) (by kernel_rfl) (by kernel_rfl) (fun _ _ _ h => h) (by rfl) (fun w => by go_simp; try rfl) hHeld ?_
                go_frame
                refine anyL_ready (rs := [17]) (by kernel_rfl) (by simp) (AllL.last rfl (by kernel_rfl) (fun K hK => ?_))
                rw [if_pos (by rfl)]
                refine stSvW none rfl rfl hR9 HIu.out (q9, (l ++ [ot]).length, c9) rfl rfl fun W10 hR10 C10 => ?_
                have hQ10 := hQ8.upm (u' := (q9, (l ++ [ot]).length, c9)) hu hl hI9 hg9 ha9 hR10 C10
                have hF10 := hFg.trans (frm_chg C10 (.inr (.inr (.inl rfl))))
                have hU10 : UsG w us (us2.set i (q9, (l ++ [ot]).length, c9)) := hU.set hu hF8.size ha9
                refine hK.out _ _ ?_
                clear hK K hHeld hR10 C10 hQ8 hX8 hui8 hF8 hR9 hFg hg9 ha9 hI9
                try go_frame
                refine anyL_done (by kernel_rfl) ?_
                go_wp2_with fail
                go_roundw
                case rel => exact ⟨m + 1, vt2, _, _, by omega, by go_num, HFd.out, by rw [mrkR_at ot hl]; exact hQ10, hU10, hF10⟩
                case measure => simp [intOf]; omega
              · have hk2b : (ok == 2) = false := by simp [hk2]
                have HS : Hid (∀ V, Below W6.heap.size W6 V → Rq V B ⟨b, gn, cn, gm, cm, gb, cb, vr, vt2, us2⟩ R2 ∧ Blk V bx (opA ⟨os, ok, ot, oy, ov⟩) 35 ∧ Frm (rkB ⟨b, gn, cn, gm, cm, gb, cb, vr, vt, us⟩) w V) := fun V hb => ⟨hQ6.keep hb, hX6.keep hb, hF6.trans (frm_below hb)⟩
                have hokR := hfd.kp.ok (HK1.out.1.ok HOK.out)
                obtain ⟨qr, cr, er⟩ := hQ6.re.is.form
                dsimp only at er
                have HC : Hid (∀ V, Below W6.heap.size W6 V → V.cell? ⟨b, 0, none⟩ = some (.slice qr R2.res.length cr) ∧ V.cell? ⟨b, 1, none⟩ = some (.int .i64 R2.sh)) := fun V hb => by
                  have h1 := (hQ6.keep hb).cells
                  exact ⟨by rw [← er]; exact h1.1, h1.2.1⟩
                have HY : Hid (∀ V, Below W6.heap.size W6 V → V.cell? ⟨bx, 0, none⟩ = some (.int .i64 os) ∧ V.cell? ⟨bx, 1, none⟩ = some (.int .i64 ok) ∧ V.cell? ⟨bx, 2, none⟩ = some (.int .i64 ot) ∧ V.cell? ⟨bx, 3, none⟩ = some (.int .i64 oy) ∧ V.cell? ⟨bx, 4, none⟩ = some (.int .i64 ov)) := fun V hb => ⟨(hX6.keep hb).at rfl, (hX6.keep hb).at rfl, (hX6.keep hb).at rfl, (hX6.keep hb).at rfl, (hX6.keep hb).at rfl⟩
                have HI3 : Hid (∀ V, Below W6.heap.size W6 V → Calls Try.prog 6 #[.agg #[.int .i64 os, .int .i64 ok, .int .i64 ot, .int .i64 oy, .int .i64 ov], .slice qr R2.res.length cr, .int .i64 R2.sh] V fun e w' => ∃ v, e = .returned v ∧ EO E3k 40 w' V.heap.size v (idL ot oy R2.sh R2.res) ∧ Below V.heap.size V w') := fun V hb => by
                  have := rids_is ⟨os, ok, ot, oy, ov⟩ vr R2.res R2.sh V (hQ6.keep hb).re.is hfo hokR.rr (by have := hokR.s1; omega) (by have := hokR.r1; omega)
                  rw [er] at this
                  exact this
                have hL3 : (idL ot oy R2.sh R2.res).length ≤ 3 := by rw [idL_len]; exact hokR.r1
                have HLm : Hid (∀ k ∈ idL ot oy R2.sh R2.res, 0 ≤ k.1 ∧ k.1 < (R2.ba.length : Int)) := fun k hk => by
                  have := idL_mem hokR.s0 hokR.s1 hokR.r1 hfo.t hfo.y hk
                  rw [hokR.bl]
                  exact this.2
                have HIR : Hid (idsR R2 ⟨os, ok, ot, oy, ov⟩ = (idL ot oy R2.sh R2.res).filter fun k => !pasB R2.ba k) := rfl
                have HT2 : Hid (R2.tk.length + 3 ≤ 100000) := by
                  have h1 := hfd.few
                  have h2 := HK1.out.2.1
                  have h3 := HT.out
                  show _ ≤ _
                  omega
                have HFD : Hid (FdR R1 R2 i m ops ∧ R1.res.length ≤ 3) := ⟨hfd, by rw [HK1.out.1.res]; exact HOK.out.r1⟩
                have HK2 : Hid (ok ≠ 2) := hk2
                clear hQ6 hX6 hF6 hk2 hokR er hfd hfo
                generalize hres : R2.res.length = nr at *
                generalize idL ot oy R2.sh R2.res = L at *
                go_upto_region 22 with fail
                clear a1
                refine wp_region_held_drew (S := fun w' => Below W6.heap.size W6 w') (by kernel_rfl) (ab_drew (Below.refl _ _)) (fun hHeld => ?_)
                refine takeH (i := 0) (some 159) rfl rfl (by kernel_rfl) (by kernel_rfl) (by kernel_rfl) (fun _ _ _ h => h) (by rfl) (fun w hSw => by (try dsimp only at hSw); (obtain ⟨q0, q1, q2, q3, q4⟩ := HY.out _ hSw; go_simp; try rfl)) hHeld ?_
                go_frame
                refine takeH (i := 1) (some 160) rfl rfl (by kernel_rfl) (by kernel_rfl) (by kernel_rfl) (fun _ _ _ h => h) (by rfl) (fun w hSw => by (try dsimp only at hSw); go_simp; try rfl) hHeld ?_
                go_frame
                refine takeH (i := 2) (some 161) rfl rfl (by kernel_rfl) (by kernel_rfl) (by kernel_rfl) (fun _ _ _ h => h) (by rfl) (fun w hSw => by (try dsimp only at hSw); go_simp; try rfl) hHeld ?_
                go_frame
                refine takeH (i := 3) (some 162) rfl rfl (by kernel_rfl) (by kernel_rfl) (by kernel_rfl) (fun _ _ _ h => h) (by rfl) (fun w hSw => by (try dsimp only at hSw); go_simp; try rfl) hHeld ?_
                go_frame
                refine takeH (i := 4) (some 163) rfl rfl (by kernel_rfl) (by kernel_rfl) (by kernel_rfl) (fun _ _ _ h => h) (by rfl) (fun w hSw => by (try dsimp only at hSw); (obtain ⟨q0, q1⟩ := HC.out _ hSw; go_simp; try rfl)) hHeld ?_
                go_frame
                refine takeH (i := 5) (some 164) rfl rfl (by kernel_rfl) (by kernel_rfl) (by kernel_rfl) (fun _ _ _ h => h) (by rfl) (fun w hSw => by (try dsimp only at hSw); go_simp; try rfl) hHeld ?_
                go_frame
                refine takeH (i := 6) (some 165) rfl rfl (by kernel_rfl) (by kernel_rfl) (by kernel_rfl) (fun _ _ _ h => h) (by rfl) (fun w hSw => by (try dsimp only at hSw); go_simp; try rfl) hHeld ?_
                go_frame
                refine takeH (i := 7) (some 166) rfl rfl (by kernel_rfl) (by kernel_rfl) (by kernel_rfl) (fun _ _ _ h => h) (by rfl) (fun w hSw => by (try dsimp only at hSw); go_simp; try rfl) hHeld ?_
                go_frame
                refine takeH (i := 8) (some 167) rfl rfl (by kernel_rfl) (by kernel_rfl) (by kernel_rfl) (fun _ _ _ h => h) (by rfl) (fun w hSw => by (try dsimp only at hSw); (obtain ⟨q0, q1⟩ := HC.out _ hSw; go_simp; try rfl)) hHeld ?_
                go_frame
                refine wpAnyH_ready (rs := [9]) (by kernel_rfl) (by simp) (AllReadyH.cons rfl (fun K hK => ?_) AllReadyH.nil)
                go_simp
                refine (HI3.out _ hHeld).mono ?_
                rintro e W7 ⟨v1, rfl, hO1, b1⟩
                show K _ _
                refine hK.out _ _ (ab_trans hHeld b1) (fun hHeld => ?_)
                clear hK K b1
                refine takeH (i := 10) (some 19) rfl rfl (by kernel_rfl) (by kernel_rfl) (by kernel_rfl) (fun _ _ _ h => h) (by rfl) (fun w hSw => by (try dsimp only at hSw); go_simp; try rfl) hHeld ?_
                go_frame
                refine wpAnyH_done (by kernel_rfl) ?_ _
                obtain ⟨hQ7, hX7, hF7⟩ := HS.out W7 hHeld
                have hB7 : B ≤ W7.heap.size := Nat.le_trans hB6 hHeld.size
                have hbx7 : bx < W7.heap.size := Nat.lt_of_lt_of_le hbx hHeld.size
                clear hHeld HI3 HC HY HS
                obtain ⟨q3, c3, g3, o3, rfl, hc3, hm3, hp3, hr3⟩ := hO1.er.at
                clear hO1
                generalize hn3 : L.length = n3 at *
                have HQ7 : Hid (Rq W7 B ⟨b, gn, cn, gm, cm, gb, cb, vr, vt2, us2⟩ R2 ∧ Blk W7 bx (opA ⟨os, ok, ot, oy, ov⟩) 35 ∧ Frm (rkB ⟨b, gn, cn, gm, cm, gb, cb, vr, vt, us⟩) w W7) := ⟨hQ7, hX7, hF7⟩
                clear hQ7 hX7 hF7
                go_wp2_with fail
                go_loopw [18, 20] (fun v z wr => ∃ j : Nat, j ≤ n3 ∧ z = .int .i64 (j : Int) ∧ EO E9 110 wr W7.heap.size v (tokL (i : Int) ⟨os, ok, ot, oy, ov⟩ ((L.take j).filter fun k => !pasB R2.ba k)) ∧ Below W7.heap.size W7 wr) (fun _ z _ => n3 - (intOf z).toNat)
                case atStart => exact ⟨0, by omega, rfl, eo_nil _ _ _ _, Below.refl _ _⟩
                case round =>
                  obtain ⟨j, hj, rfl, hA, hw2⟩ := hrel
                  by_cases cj2 : j = n3
                  · have cj3 : n3 = j := cj2.symm
                    subst cj3
                    rw [List.take_of_length_le (by omega), ← HIR.out] at hA
                    have hQr := HQ7.out.1.keep hw2
                    have hFr := HQ7.out.2.2.trans (frm_below hw2)
                    have hBr : B ≤ wr.heap.size := Nat.le_trans hB7 hw2.size
                    have hXr := HQ7.out.2.1.keep hw2
                    have hF7 : w.heap.size ≤ wr.heap.size := hFr.size
                    have hla : (tokL (i : Int) ⟨os, ok, ot, oy, ov⟩ (idsR R2 ⟨os, ok, ot, oy, ov⟩)).length ≤ 3 := by
                      unfold tokL
                      rw [List.length_map, HIR.out]
                      exact Nat.le_trans (List.length_filter_le _ _) (by omega)
                    have HAd : Hid (addR R2 (i : Int) ⟨os, ok, ot, oy, ov⟩ = { R2 with tk := R2.tk ++ tokL (i : Int) ⟨os, ok, ot, oy, ov⟩ (idsR R2 ⟨os, ok, ot, oy, ov⟩) }) := rfl
                    have HRo : Hid (rooR R2 (i : Int) ⟨os, ok, ot, oy, ov⟩ = decide (((idsT (R2.tk ++ tokL (i : Int) ⟨os, ok, ot, oy, ov⟩ (idsR R2 ⟨os, ok, ot, oy, ov⟩))).length : Int) ≤ R2.mo)) := rfl
                    generalize tokL (i : Int) ⟨os, ok, ot, oy, ov⟩ (idsR R2 ⟨os, ok, ot, oy, ov⟩) = ad at *
                    obtain ⟨qt, ct, et⟩ := hQr.te.form
                    dsimp only at et
                    subst et
                    obtain ⟨qa, ca, ea⟩ := hA.form
                    subst ea
                    have hT2 := HT2.out
                    have hTe := hQr.te
                    have c6 : wr.cell? ⟨b, 6, none⟩ = some (.slice qt R2.tk.length ct) := hQr.cells.2.2.2.2.2.2
                    dsimp only at hTe
                    generalize hnT : R2.tk.length = nT at *
                    generalize hnA : ad.length = nA at *
                    clear hp3 hr3 hw2
                    go_upto_region 30 with (first
                      | (refine bsE0 (E := E9) rfl rfl (by simp) bs_tk0 ?_; intro W8 hO8 b8)
                      | (at_builtin; refine app_e (E := E9) wr rfl rfl Try.underlying104 infoTk rfl rfl hO8 rfl (hTe.keep b8).er ?c1 ?c2 b8 ?_))
                    case c1 => first | omega | (rw [List.length_nil]; omega)
                    case c2 => first | omega | (rw [List.length_nil]; omega)
                    intro v9 W9 h1 h2 h3
                    obtain ⟨q9, c9, e9⟩ := h1.form
                    rw [hnT] at e9
                    subst e9
                    clear h3
                    go_upto_region 30 with (at_builtin; refine app_e (E := E9) wr rfl rfl Try.underlying104 infoTk rfl rfl h1 rfl (hA.keep h2).er ?c1 ?c2 h2 ?_)
                    case c1 => omega
                    case c2 => omega
                    intro v10 W10 k1 k2 k3
                    obtain ⟨q10, c10, e10⟩ := k1.form
                    rw [List.length_append, hnT, hnA] at e10
                    subst e10
                    have hQ10 := hQr.keep k2
                    have hB10 : Blk W10 b #[vr, .int .i64 R2.sh, .int .i64 R2.mo, .slice (some ⟨gn, 0, none⟩) R2.nx.length cn, .slice (some ⟨gm, 0, none⟩) us2.length cm, .slice (some ⟨gb, 0, none⟩) R2.ba.length cb, .slice qt nT ct] 106 := hQ10.blk
                    have hT10 := hTe.keep k2
                    have hX10 := hXr.keep k2
                    have hF10 := hFr.trans (frm_below k2)
                    have hlen : (R2.tk ++ ad).length = nT + nA := by rw [List.length_append, hnT, hnA]
                    have HLen : Hid ((R2.tk ++ ad).length = nT + nA) := hlen
                    have e6 := hB10.at (i := 6) rfl
                    have f6 := hB10.frozen 6
                    have nbx : bx ≠ b := fun e => absurd (hX10.kindR.uniq (e ▸ hB10.kindR)) (by decide)
                    have hs10 : w.heap.size ≤ W10.heap.size := hF10.size
                    clear h1 h2 hA hTe hQr hFr hXr hO8 b8 c6 k3 hlen
                    go_upto_region 30 with fail
                    have hB11 := hB10.set 6 (.slice q10 (nT + nA) c10)
                    have C11 := chg_set W10 b 6 (.slice q10 (nT + nA) c10)
                    generalize W10.setCell ⟨b, 6, none⟩ (.slice q10 (nT + nA) c10) = W11 at *
                    have hB11' : Blk W11 b #[vr, .int .i64 R2.sh, .int .i64 R2.mo, .slice (some ⟨gn, 0, none⟩) R2.nx.length cn, .slice (some ⟨gm, 0, none⟩) us2.length cm, .slice (some ⟨gb, 0, none⟩) R2.ba.length cb, .slice q10 (nT + nA) c10] 106 := by simpa using hB11
                    have hQ11 : Rq W11 B ⟨b, gn, cn, gm, cm, gb, cb, vr, .slice q10 (nT + nA) c10, us2⟩ { R2 with tk := R2.tk ++ ad } := hQ10.upt (eo_less k1 hBr) hB11' C11
                    have hX11 := hX10.chg C11 nbx
                    have hT11 := eo_chg hT10 hB10 (by decide) C11
                    have hF11 := hF10.trans (frm_chg (X := rkB ⟨b, gn, cn, gm, cm, gb, cb, vr, vt, us⟩) C11 (.inl rfl))
                    have HW : Hid (∀ V, Below W11.heap.size W11 V → Rq V B ⟨b, gn, cn, gm, cm, gb, cb, vr, .slice q10 (nT + nA) c10, us2⟩ { R2 with tk := R2.tk ++ ad } ∧ Blk V bx (opA ⟨os, ok, ot, oy, ov⟩) 35 ∧ EO E9 110 V B (.slice qt nT ct) R2.tk ∧ Frm (rkB ⟨b, gn, cn, gm, cm, gb, cb, vr, vt, us⟩) w V) := fun V hb => ⟨hQ11.keep hb, hX11.keep hb, hT11.keep hb, hF11.trans (frm_below hb)⟩
                    have HI4 := fun (V : World) (hb : Below W11.heap.size W11 V) => rids16_any b _ (R2.tk ++ ad) V (hQ11.keep hb).blk.lt (hQ11.keep hb).cells.2.2.2.2.2.2 (hQ11.keep hb).te.er (by have := HLen.out; omega)
                    have HC4 : Hid (∀ V, Below W11.heap.size W11 V → V.cell? ⟨b, 2, none⟩ = some (.int .i64 R2.mo)) := fun V hb => (hQ11.keep hb).cells.2.2.1
                    have HNI : Hid ((idsT (R2.tk ++ ad)).length ≤ 100003) := Nat.le_trans (idsT_len _) (by have := HLen.out; omega)
                    clear hB10 hB11 hB11' hQ10 hQ11 hX10 hX11 hT10 hT11 hF10 hF11 C11 k1 k2 e6 f6
                    go_upto_region 30 with fail
                    refine wp_region_held_drew (S := fun w' => Below W11.heap.size W11 w') (by kernel_rfl) (ab_drew (Below.refl _ _)) (fun hHeld => ?_)
                    refine takeH (i := 0) (some 216) rfl rfl (by kernel_rfl) (by kernel_rfl) (by kernel_rfl) (fun _ _ _ h => h) (by rfl) (fun w hSw => by (try dsimp only at hSw); go_simp; try rfl) hHeld ?_
                    go_frame
                    refine takeH (i := 3) (some 219) rfl rfl (by kernel_rfl) (by kernel_rfl) (by kernel_rfl) (fun _ _ _ h => h) (by rfl) (fun w hSw => by (try dsimp only at hSw); go_simp; try rfl) hHeld ?_
                    go_frame
                    refine takeH (i := 4) (some 220) rfl rfl (by kernel_rfl) (by kernel_rfl) (by kernel_rfl) (fun _ _ _ h => h) (by rfl) (fun w hSw => by (try dsimp only at hSw); go_simp; try rfl) hHeld ?_
                    go_frame
                    refine takeH (i := 5) (some 221) rfl rfl (by kernel_rfl) (by kernel_rfl) (by kernel_rfl) (fun _ _ _ h => h) (by rfl) (fun w hSw => by (try dsimp only at hSw); go_simp; try rfl) hHeld ?_
                    go_frame
                    refine takeH (i := 6) (some 222) rfl rfl (by kernel_rfl) (by kernel_rfl) (by kernel_rfl) (fun _ _ _ h => h) (by rfl) (fun w hSw => by (try dsimp only at hSw); (have q2 := HC4.out _ hSw; go_simp; try rfl)) hHeld ?_
                    go_frame
                    refine wpAnyH_ready (rs := [1]) (by kernel_rfl) (by simp) (AllReadyH.cons rfl (fun K hK => ?_) AllReadyH.nil)
                    go_simp
                    refine (HI4 _ hHeld).mono ?_
                    rintro e W12 ⟨v12, rfl, hO12, b12⟩
                    show K _ _
                    obtain ⟨q12, c12, e12⟩ := hO12.form
                    subst e12
                    refine hK.out _ _ (ab_trans hHeld b12) (fun hHeld => ?_)
                    clear hK K b12 hO12 HI4
                    generalize idsT (R2.tk ++ ad) = ids at *
                    generalize hnI : ids.length = nI at *
                    refine takeH (i := 2) (some 218) rfl rfl (by kernel_rfl) (by kernel_rfl) (by kernel_rfl) (fun _ _ _ h => h) (by rfl) (fun w hSw => by (try dsimp only at hSw); go_simp; try rfl) hHeld ?_
                    go_frame
                    refine takeH (i := 7) (some 223) rfl rfl (by kernel_rfl) (by kernel_rfl) (by kernel_rfl) (fun _ _ _ h => h) (by rfl) (fun w hSw => by (try dsimp only at hSw); go_simp; try rfl) hHeld ?_
                    go_frame
                    refine wpAnyH_done (by kernel_rfl) ?_ _
                    obtain ⟨hQ12, hX12, hT12, hF12⟩ := HW.out W12 hHeld
                    clear hHeld HC4 HW
                    by_cases hro : (nI : Int) ≤ R2.mo
                    · have HRo2 : Hid (rooR R2 (i : Int) ⟨os, ok, ot, oy, ov⟩ = true) := by show _ = _; rw [HRo.out]; exact decide_eq_true hro
                      have hro2 : ¬ R2.mo < (nI : Int) := by omega
                      go_wp2_with fail
                      go_roundw
                      case rel => exact ⟨m + 1, _, us2, addR R2 (i : Int) ⟨os, ok, ot, oy, ov⟩, by omega, by go_num, HFD.out.1.add HFD.out.2 HO1.out HK2.out HRo2.out, by rw [HAd.out]; exact hQ12, hU, hF12⟩
                      case measure => simp [intOf]; omega
                    · have HRo2 : Hid (rooR R2 (i : Int) ⟨os, ok, ot, oy, ov⟩ = false) := by show _ = _; rw [HRo.out]; exact decide_eq_false hro
                      have hro2 : R2.mo < (nI : Int) := by omega
                      have HE : Hid (takR R1 i ops = (R2, some os)) := by
                        have h1 := takR_snoc HFD.out.1.tk HO1.out
                        rw [stpR_full HK2.out HRo2.out] at h1
                        exact takR_full h1
                      have hx2 : R2.nx[i]? = some fr := by rw [HFD.out.1.kp.nx, HK1.out.1.nx]; exact HX.out
                      have hnn2 : R2.nx.length = nn := by rw [HFD.out.1.kp.nx, HK1.out.1.nx]; exact HNn.out
                      have HI2 : Hid (i < R2.nx.length) := by show _ < _; rw [hnn2]; exact HI.out
                      have hB12 : Blk W12 b #[vr, .int .i64 R2.sh, .int .i64 R2.mo, .slice (some ⟨gn, 0, none⟩) R2.nx.length cn, .slice (some ⟨gm, 0, none⟩) us2.length cm, .slice (some ⟨gb, 0, none⟩) R2.ba.length cb, .slice q10 (nT + nA) c10] 106 := by
                        have := hQ12.blk
                        unfold rqC at this
                        exact this
                      have e6 := hB12.at (i := 6) rfl
                      have f6 := hB12.frozen 6
                      clear hnT
                      go_upto_region 32 with fail
                      have hB13 := hB12.set 6 (.slice qt nT ct)
                      have C13 := chg_set W12 b 6 (.slice qt nT ct)
                      generalize W12.setCell ⟨b, 6, none⟩ (.slice qt nT ct) = W13 at *
                      have hB13' : Blk W13 b #[vr, .int .i64 R2.sh, .int .i64 R2.mo, .slice (some ⟨gn, 0, none⟩) R2.nx.length cn, .slice (some ⟨gm, 0, none⟩) us2.length cm, .slice (some ⟨gb, 0, none⟩) R2.ba.length cb, .slice qt nT ct] 106 := by simpa using hB13
                      have hQ13 : Rq W13 B ⟨b, gn, cn, gm, cm, gb, cb, vr, .slice qt nT ct, us2⟩ R2 := hQ12.upt hT12 hB13' C13
                      have hX13 := hX12.chg C13 nbx
                      have hF13 := hF12.trans (frm_chg (X := rkB ⟨b, gn, cn, gm, cm, gb, cb, vr, vt, us⟩) C13 (.inl rfl))
                      have hni : (i : Int) < (nn : Int) := hli
                      have r3 : W13.drew.cell? ⟨b, 3, none⟩ = some (.slice (some ⟨gn, 0, none⟩) nn cn) := by
                        have := (hQ13.keep (ab_drew (Below.refl _ _))).cells.2.2.2.1
                        rw [hnn2] at this
                        exact this
                      have r0 : W13.drew.cell? ⟨bx, 0, none⟩ = some (.int .i64 os) := (hX13.keep (ab_drew (Below.refl _ _))).at rfl
                      have hQ14 := hQ13.keep (ab_drew (Below.refl _ _))
                      have hF14 := hF13.trans (frm_below (ab_drew (Below.refl _ _)))
                      clear hB12 hB13 hB13' C13 hQ12 hQ13 hX12 hT12 hF12 hF13 e6 f6 hx2 hX13
                      refine region_L 8 (S := fun w' => w'.cell? ⟨b, 3, none⟩ = some (.slice (some ⟨gn, 0, none⟩) nn cn) ∧ w'.cell? ⟨bx, 0, none⟩ = some (.int .i64 os)) (by kernel_rfl) ⟨r3, r0⟩ (fun hHeld => ?_)
                      clear r3 r0
                      generalize W13.drew = W14 at *
                      refine takeP (i := 0) (some 228) (by rfl) rfl rfl (by kernel_rfl) (by kernel_rfl) (by kernel_rfl) (fun _ _ _ h => h) (by rfl) (fun w => by go_simp; try rfl) hHeld ?_
                      go_frame
                      refine takeP (i := 1) (some 229) (by rfl) rfl rfl (by kernel_rfl) (by kernel_rfl) (by kernel_rfl) (fun _ _ _ h => h) (by rfl) (fun w => by go_simp; try rfl) hHeld ?_
                      go_frame
                      refine takeP (i := 2) (some 230) (by rfl) rfl rfl (by kernel_rfl) (by kernel_rfl) (by kernel_rfl) (fun _ _ _ h => h) (by rfl) (fun w => by go_simp; try rfl) hHeld ?_
                      go_frame
                      refine takeL (i := 3) [7, 8] (some 231) (by rfl) rfl rfl (by kernel_rfl) (by kernel_rfl) (by kernel_rfl) (by kernel_rfl) (fun _ _ _ h => h) (by rfl) (fun w hSw => by (try dsimp only at hSw); (obtain ⟨q3, q0⟩ := hSw; go_simp; try rfl)) hHeld ?_
                      go_frame
                      refine takeP (i := 4) (some 232) (by rfl) rfl rfl (by kernel_rfl) (by kernel_rfl) (by kernel_rfl) (fun _ _ _ h => h) (by rfl) (fun w => by go_simp; try rfl) hHeld ?_
                      go_frame
                      refine takeP (i := 5) (some 233) (by rfl) rfl rfl (by kernel_rfl) (by kernel_rfl) (by kernel_rfl) (fun _ _ _ h => h) (by rfl) (fun w => by go_simp; try rfl) hHeld ?_
                      go_frame
                      refine takeL (i := 6) [8] (some 234) (by rfl) rfl rfl (by kernel_rfl) (by kernel_rfl) (by kernel_rfl) (by kernel_rfl) (fun _ _ _ h => h) (by rfl) (fun w hSw => by (try dsimp only at hSw); (obtain ⟨q3, q0⟩ := hSw; go_simp; try rfl)) hHeld ?_
                      go_frame
                      refine takeP (i := 7) (some 235) (by rfl) rfl rfl (by kernel_rfl) (by kernel_rfl) (by kernel_rfl) (fun _ _ _ h => h) (by rfl) (fun w => by go_simp; try rfl) hHeld ?_
                      go_frame
                      refine anyL_ready (rs := [8]) (by kernel_rfl) (by simp) (AllL.last rfl (by kernel_rfl) (fun K hK => ?_))
                      rw [if_pos (by rfl)]
                      refine stI1W none rfl rfl hQ14.ne HI2.out os rfl rfl fun W15 hR15 C15 => ?_
                      have HQ15 : Hid (Rq W15 B ⟨b, gn, cn, gm, cm, gb, cb, vr, .slice qt nT ct, us2⟩ (nxR R2 i os)) := hQ14.upn (by rw [List.length_set]) hR15 C15
                      have hF15 := hF14.trans (frm_chg (X := rkB ⟨b, gn, cn, gm, cm, gb, cb, vr, vt, us⟩) C15 (.inr (.inl rfl)))
                      refine hK.out _ _ ?_
                      clear hK K hHeld hR15 C15 hQ14 hF14
                      try go_frame
                      refine anyL_done (by kernel_rfl) ?_
                      go_wp2_with fail
                      try rw [Exit.noGoto_ret]
                      go_ret
                      exact ⟨by unfold fdE6 fdR6; rw [← HC1.out, HE.out]; rfl, ⟨.slice qt nT ct, us2, by unfold fdZ6 fdR6; rw [← HC1.out, HE.out]; exact HQ15.out⟩, hF15⟩
                  · obtain ⟨x, hx⟩ : ∃ x, L[j]? = some x := ⟨L[j]'(by omega), List.getElem?_eq_getElem (by omega)⟩
                    obtain ⟨rfl, hg3⟩ := hp3 (by omega)
                    have hji : (j : Int) < (n3 : Int) := by omega
                    have hxm := HLm.out x (List.mem_of_getElem? hx)
                    obtain ⟨xa, xb, xc⟩ := x
                    obtain ⟨na, rfl⟩ : ∃ na : Nat, xa = (na : Int) := ⟨xa.toNat, by have := hxm.1; dsimp only at this; omega⟩
                    have hna : na < R2.ba.length := by have := hxm.2; dsimp only at this; omega
                    obtain ⟨⟨p0, p1⟩, hpb⟩ : ∃ p, R2.ba[na]? = some p := ⟨R2.ba[na], List.getElem?_eq_getElem hna⟩
                    have hQr := HQ7.out.1.keep hw2
                    have y5 := cls_cell hQr.cells.2.2.2.2.2.1 hQr.blk.lt
                    have hnai : (na : Int) < (R2.ba.length : Int) := by omega
                    have lg := Nat.lt_of_lt_of_le hg3 hw2.size
                    have x0 : ∀ y : Cls wr, y.val.cell? ⟨g3, o3 + j * 3, none⟩ = some (.int .i64 (na : Int)) := fun y => by
                      have := keep_cell (ab_trans hw2 y.prop) (hr3 j _ hx 0 _ rfl) hg3
                      rwa [Nat.add_zero] at this
                    have x1 : ∀ y : Cls wr, y.val.cell? ⟨g3, o3 + j * 3 + 1, none⟩ = some (.int .i64 xb) := fun y => keep_cell (ab_trans hw2 y.prop) (hr3 j _ hx 1 _ rfl) hg3
                    have x2 : ∀ y : Cls wr, y.val.cell? ⟨g3, o3 + j * 3 + 2, none⟩ = some (.int .i64 xc) := fun y => keep_cell (ab_trans hw2 y.prop) (hr3 j _ hx 2 _ rfl) hg3
                    have w0 : ∀ y : Cls wr, y.val.cell? ⟨gb, na * 2, none⟩ = some (.int .i64 p0) := fun y => (hQr.be.keep y.prop).cell (i := 0) hpb rfl
                    have w1 : ∀ y : Cls wr, y.val.cell? ⟨gb, na * 2 + 1, none⟩ = some (.int .i64 p1) := fun y => (hQr.be.keep y.prop).cell (i := 1) hpb rfl
                    have HP : Hid (pasB R2.ba ((na : Int), xb, xc) = pl xb xc p0 p1) := pasB_at (k := ((na : Int), xb, xc)) rfl hpb
                    have HTk : Hid ((L.take (j + 1)).filter (fun k => !pasB R2.ba k) = (L.take j).filter (fun k => !pasB R2.ba k) ++ (if (!pasB R2.ba ((na : Int), xb, xc)) = true then [((na : Int), xb, xc)] else [])) := filt_take (fun k => !pasB R2.ba k) hx
                    have hLl : ((L.take j).filter fun k => !pasB R2.ba k).length ≤ 3 := Nat.le_trans (List.length_filter_le _ _) (by rw [List.length_take]; omega)
                    have HA := fun (y : Cls wr) => And.intro (hA.keep y.prop) (ab_trans hw2 y.prop)
                    have HXo : Hid (∀ V, Below W7.heap.size W7 V → Blk V bx (opA ⟨os, ok, ot, oy, ov⟩) 35) := fun V hb => HQ7.out.2.1.keep hb
                    have HR3 : Hid (∀ V, Below W7.heap.size W7 V → V.cell? ⟨g3, o3 + j * 3, none⟩ = some (.int .i64 (na : Int)) ∧ V.cell? ⟨g3, o3 + j * 3 + 1, none⟩ = some (.int .i64 xb) ∧ V.cell? ⟨g3, o3 + j * 3 + 2, none⟩ = some (.int .i64 xc)) := fun V hb => by
                      have := keep_cell hb (hr3 j _ hx 0 _ rfl) hg3
                      rw [Nat.add_zero] at this
                      exact ⟨this, keep_cell hb (hr3 j _ hx 1 _ rfl) hg3, keep_cell hb (hr3 j _ hx 2 _ rfl) hg3⟩
                    clear hr3 hx hxm hpb hA hQr hp3
                    generalize R2.ba.length = nb2 at *
                    generalize (L.take j).filter (fun k => !pasB R2.ba k) = LL at *
                    go_upto_region 26 with fail
                    have HZ := cls_some wr
                    refine wp_region_below (by kernel_rfl) (by kernel_rfl) ?_
                    repeat (go_big_quiet_step (first | (go_at_call 11; exact calls_below (rpless_any _ _ _ _ _))))
                    refine wpQuiet_nil ?_
                    rintro V ⟨y, rfl⟩
                    obtain ⟨hA2, hV7⟩ := HA y
                    clear x0 x1 x2 w0 w1 y5 HZ
                    cases hpl : pl xb xc p0 p1
                    · have HTk2 : Hid ((L.take (j + 1)).filter (fun k => !pasB R2.ba k) = LL ++ [((na : Int), xb, xc)]) := by show _ = _; rw [HTk.out, HP.out, hpl]; rfl
                      generalize y.val = V at *
                      go_upto_region 27 with fail
                      have bdr : Below V.heap.size V V.drew := ab_drew (Below.refl _ _)
                      have hA3 := hA2.keep bdr
                      have hV3 := ab_trans hV7 bdr
                      refine region_L 10 (S := fun w' => Below W7.heap.size W7 w') (by kernel_rfl) hV3 (fun hHeld => ?_)
                      clear hA2 hV7 bdr HA hpl
                      generalize V.drew = V3 at *
                      refine takeP (i := 0) (some 193) (by rfl) rfl rfl (by kernel_rfl) (by kernel_rfl) (by kernel_rfl) (fun _ _ _ h => h) (by rfl) (fun w => by go_simp; try rfl) hHeld ?_
                      go_frame
                      refine takeP (i := 1) (some 194) (by rfl) rfl rfl (by kernel_rfl) (by kernel_rfl) (by kernel_rfl) (fun _ _ _ h => h) (by rfl) (fun w => by go_simp; try rfl) hHeld ?_
                      go_frame
                      refine takeP (i := 2) (some 195) (by rfl) rfl rfl (by kernel_rfl) (by kernel_rfl) (by kernel_rfl) (fun _ _ _ h => h) (by rfl) (fun w => by go_simp; try rfl) hHeld ?_
                      go_frame
                      refine takeP (i := 3) (some 196) (by rfl) rfl rfl (by kernel_rfl) (by kernel_rfl) (by kernel_rfl) (fun _ _ _ h => h) (by rfl) (fun w => by go_simp; try rfl) hHeld ?_
                      go_frame
                      refine takeL (i := 4) [8, 9, 10] (some 197) (by rfl) rfl rfl (by kernel_rfl) (by kernel_rfl) (by kernel_rfl) (by kernel_rfl) (fun _ _ _ h => h) (by rfl) (fun w hSw => by (try dsimp only at hSw); (obtain ⟨q0, q1, q2⟩ := HR3.out _ hSw; go_simp; try rfl)) hHeld ?_
                      go_frame
                      refine takeP (i := 5) (some 198) (by rfl) rfl rfl (by kernel_rfl) (by kernel_rfl) (by kernel_rfl) (fun _ _ _ h => h) (by rfl) (fun w => by go_simp; try rfl) hHeld ?_
                      go_frame
                      refine takeL (i := 6) [7, 8, 9, 10] (some 199) (by rfl) rfl rfl (by kernel_rfl) (by kernel_rfl) (by kernel_rfl) (by kernel_rfl) (fun _ _ _ h => h) (by rfl) (fun w hSw => by (try dsimp only at hSw); (have hX := HXo.out _ hSw; have q0 := hX.at (i := 0) rfl; have q1 := hX.at (i := 1) rfl; have q2 := hX.at (i := 2) rfl; have q3 := hX.at (i := 3) rfl; have q4 := hX.at (i := 4) rfl; go_simp; try rfl)) hHeld ?_
                      go_frame
                      refine takeP (i := 7) (some 200) (by rfl) rfl rfl (by kernel_rfl) (by kernel_rfl) (by kernel_rfl) (fun _ _ _ h => h) (by rfl) (fun w => by (exact bd_run rfl (built_smp (i : Int) ⟨os, ok, ot, oy, ov⟩) (by simp only [List.map_toArray, List.map_cons, List.map_nil]; rfl) _)) hHeld ?_
                      go_frame
                      refine takeP (i := 8) (some 201) (by rfl) rfl rfl (by kernel_rfl) (by kernel_rfl) (by kernel_rfl) (fun _ _ _ h => h) (by rfl) (fun w => by (exact bd_run rfl (built_tok ((na : Int), xb, xc) (i : Int) ⟨os, ok, ot, oy, ov⟩) (by simp only [List.map_toArray, List.map_cons, List.map_nil]; rfl) _)) hHeld ?_
                      go_frame
                      refine anyL_ready (rs := [9]) (by kernel_rfl) (by simp) (AllL.cons rfl (fun K hK => ?_) AllL.nil)
                      rw [if_pos (by rfl)]
                      refine bsEW (E := E9) (some 202) rfl rfl (((na : Int), xb, xc), (i : Int), ⟨os, ok, ot, oy, ov⟩) (by simp only [List.map_toArray, List.map_cons, List.map_nil]; rfl) (bs_tk1 (((na : Int), xb, xc), (i : Int), ⟨os, ok, ot, oy, ov⟩)) fun W8 hO8 b8 => ?_
                      have hA8 := hA3.keep b8
                      have hV8 := ab_trans hV3 b8
                      refine hK.out _ _ hV8 (fun hHeld => ?_)
                      clear hK K hA3 hV3 b8
                      try go_frame
                      refine anyL_ready (rs := [10]) (by kernel_rfl) (by simp) (AllL.last rfl (by kernel_rfl) (fun K hK => ?_))
                      rw [if_pos (by rfl)]
                      refine appEW (E := E9) W7 (some 203) rfl rfl Try.underlying104 infoTk rfl rfl hA8 rfl hO8.er (by unfold tokL; rw [List.length_map, List.length_singleton]; omega) (by unfold tokL; rw [List.length_map, List.length_singleton]; omega) hV8 fun v9 W9 h1 h2 h3 => ?_
                      refine hK.out _ _ ?_
                      clear hK K
                      try go_frame
                      refine anyL_ready (rs := [11]) (by kernel_rfl) (by simp) (AllL.free rfl (by kernel_rfl) (fun K hK => ?_))
                      go_simp
                      refine hK.out _ _ ?_
                      clear hK K
                      try go_frame
                      refine anyL_done (by kernel_rfl) ?_
                      go_wp2_with fail
                      go_roundw
                      case rel => exact ⟨j + 1, by omega, by go_num, by rw [HTk2.out, tokL_snoc]; exact h1, h2⟩
                      case measure => simp [intOf]; omega
                    · have HTk2 : Hid ((L.take (j + 1)).filter (fun k => !pasB R2.ba k) = LL) := by show _ = _; rw [HTk.out, HP.out, hpl]; simp
                      generalize y.val = V at *
                      go_wp2_with fail
                      go_roundw
                      case rel => exact ⟨j + 1, by omega, by go_num, by rw [HTk2.out]; exact hA2, hV7⟩
                      case measure => simp [intOf]; omega
        · obtain ⟨p, hp⟩ : ∃ p, cut[j]? = some p := ⟨cut[j]'(by omega), List.getElem?_eq_getElem (by omega)⟩
          have hki : (j : Int) < (nc : Int) := by omega
          obtain ⟨q', cap', g, off, eq', -, -, hpp, hr⟩ := (HCu.out wr hF).at
          rw [hnc] at eq'
          injection eq' with e1 _ e3
          subst e1
          subst e3
          rw [hnc] at hpp
          obtain ⟨rfl, hgk⟩ := hpp (by omega)
          have y0 := hr j p hp 0 _ rfl
          have y1 := hr j p hp 1 _ rfl
          rw [Nat.add_zero, show E2.k = 2 from rfl] at y0
          rw [show E2.k = 2 from rfl] at y1
          obtain ⟨kp, kt, km⟩ := kpR_cut R cut j
          have HN : Hid (cutR R cut (j + 1) = raiR (cutR R cut j) j p) := by show (match cut[j]? with | some p => raiR (cutR R cut j) j p | none => cutR R cut j) = _; rw [hp]
          have HRs := rraise16_any j p wr hQ (Nat.le_trans HB.out.2 hF.size) (by rw [kp.bl, HNb.out]; have := HCl.out; omega) (by have := HT.out; omega)
          clear hr hpp hp hQ kp kt km
          go_wp2_with (go_at_call 19; refine HRs.mono ?_; rintro e W2 ⟨vt2, n2, rfl, hq2, hf2⟩)
          go_roundw
          case rel => exact ⟨j + 1, vt2, by omega, by go_num, by rw [HN.out]; exact hq2, hF.trans (hf2.mono fun k hk => by rcases hk with rfl | rfl; exact .inl rfl; exact .inr (.inr (.inr (.inl rfl))))⟩
          case measure => simp [intOf]; omega
    · obtain ⟨o, ho⟩ : ∃ o, ops[k]? = some o := ⟨ops[k]'(by omega), List.getElem?_eq_getElem (by omega)⟩
      obtain ⟨q', cap', g, off, eq', -, -, hp, hr⟩ := (HOp.out wr (frm_below hw)).at
      rw [hno] at eq'
      injection eq' with e1 _ e3
      subst e1
      subst e3
      rw [hno] at hp
      obtain ⟨rfl, hgk⟩ := hp (by omega)
      have hki : (k : Int) < (no : Int) := by omega
      have hin := info_at HF.out ho
      have z0 : ∀ y : Cls wr, y.val.cell? ⟨g, off + k * 5, none⟩ = some (.int .i64 o.s) := fun y => by
        have := hr k o ho 0 _ rfl
        rw [Nat.add_zero] at this
        exact keep_cell y.prop this hgk
      have z1 : ∀ y : Cls wr, y.val.cell? ⟨g, off + k * 5 + 1, none⟩ = some (.int .i64 o.k) := fun y => keep_cell y.prop (hr k o ho 1 _ rfl) hgk
      have c1 : ¬ o.s < fr := by have := hin.lo; omega
      have c2 : ¬ la < o.s := by have := hin.hi; omega
      have k1 := hin.kd
      have HP : Hid (∀ p, 0 < k → ops[k - 1]? = some p → (∀ y : Cls wr, y.val.cell? ⟨g, off + (k - 1) * 5, none⟩ = some (.int .i64 p.s)) ∧ p.s < o.s) := fun p hk0 hp0 => ⟨fun y => by
        have := hr (k - 1) p hp0 0 _ rfl
        rw [Nat.add_zero] at this
        exact keep_cell y.prop this hgk, hin.up p hk0 hp0⟩
      have HYX : Hid (∀ y : Cls wr, Below w.heap.size w y.val) := fun y => ab_trans hw y.prop
      clear hin hr hp ho x3 hw
      by_cases c3 : k = 0
      · have c3' : Hid (decide (0 < k) = false) := decide_eq_false (by omega)
        clear HP c3
        rcases k1 with k1 | k1
        · have n1 : (o.k != 1) = false := by simp [k1]
          clear k1
          go_upto_region 7 with fail
          have HZ := cls_some wr
          have c30 := c3'.out
          refine wp_region_below (by kernel_rfl) (by kernel_rfl) ?_
          repeat (go_big_quiet_step (fail))
          refine wpQuiet_nil ?_
          clear c30
          rintro V ⟨y, rfl⟩
          have hwV := HYX.out y
          go_wp2_with fail
          go_roundw
          case rel => exact ⟨k + 1, by omega, by go_num, hwV⟩
          case measure => simp [intOf]; omega
        · have n1 : (o.k != 1) = true := by simp [k1]
          have n2 : (o.k != 2) = false := by simp [k1]
          clear k1
          go_upto_region 7 with fail
          have HZ := cls_some wr
          have c30 := c3'.out
          refine wp_region_below (by kernel_rfl) (by kernel_rfl) ?_
          repeat (go_big_quiet_step (fail))
          refine wpQuiet_nil ?_
          clear c30
          rintro V ⟨y, rfl⟩
          have hwV := HYX.out y
          go_wp2_with fail
          go_roundw
          case rel => exact ⟨k + 1, by omega, by go_num, hwV⟩
          case measure => simp [intOf]; omega
      · obtain ⟨j, rfl⟩ : ∃ j, k = j + 1 := ⟨k - 1, by omega⟩
        obtain ⟨p, hp⟩ : ∃ p, ops[j]? = some p := ⟨ops[j]'(by omega), List.getElem?_eq_getElem (by omega)⟩
        obtain ⟨p0, c4⟩ := HP.out p (by omega) (by rw [Nat.add_sub_cancel]; exact hp)
        have p0 : ∀ y : Cls wr, y.val.cell? ⟨g, off + j * 5, none⟩ = some (.int .i64 p.s) := p0
        have c4' : ¬ o.s ≤ p.s := by omega
        have c3' : (0 : Int) < ((j + 1 : Nat) : Int) := by omega
        have hjn : (j : Int) < (no : Int) := by omega
        clear HP c3 hp c4
        rcases k1 with k1 | k1
        · have n1 : (o.k != 1) = false := by simp [k1]
          clear k1
          go_upto_region 7 with fail
          have HZ := cls_some wr
          refine wp_region_below (by kernel_rfl) (by kernel_rfl) ?_
          repeat (go_big_quiet_step (fail))
          refine wpQuiet_nil ?_
          rintro V ⟨y, rfl⟩
          have hwV := HYX.out y
          go_wp2_with fail
          go_roundw
          case rel => exact ⟨j + 1 + 1, by omega, by go_num, hwV⟩
          case measure => simp [intOf]; omega
        · have n1 : (o.k != 1) = true := by simp [k1]
          have n2 : (o.k != 2) = false := by simp [k1]
          clear k1
          go_upto_region 7 with fail
          have HZ := cls_some wr
          refine wp_region_below (by kernel_rfl) (by kernel_rfl) ?_
          repeat (go_big_quiet_step (fail))
          refine wpQuiet_nil ?_
          rintro V ⟨y, rfl⟩
          have hwV := HYX.out y
          go_wp2_with fail
          go_roundw
          case rel => exact ⟨j + 1 + 1, by omega, by go_num, hwV⟩
          case measure => simp [intOf]; omega
end Go.Proofs.Ytogbhiklhcibdaa
