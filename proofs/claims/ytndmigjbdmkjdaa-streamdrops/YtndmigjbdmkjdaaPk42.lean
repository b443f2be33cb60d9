/-
  A cut drops just the samples all of whose cells are ahead of it: the walk of estuarylaw14.StreamDrops.
-/
import Derived.Test.YtndmigjbdmkjdaaPk37
import Derived.Test.YtndmigjbdmkjdaaPk41
import Derived.Test.YtndmigjbdmkjdaaPk32
import Derived.Test.YtndmigjbdmkjdaaPk20
import Derived.ProofKit
import Derived.OpenShut
import Derived.ChangeOld
import Derived.Below
namespace Go.Proofs.Ytndmigjbdmkjdaa.streamDrops
open Go.ChangeShapes Go.WideShapes Go.ChangeAt Go.RowKit Go.Joins
set_option linter.unusedVariables false
set_option maxRecDepth 100000

theorem q22 (w : World) : (binOp .eql 29 (Err 2) (Err 2)).run Try.prog w = .ok (.bool true) w := by kernel_rfl
theorem n20 (w : World) : (binOp .neq 29 (Err 2) .nilIface).run Try.prog w = .ok (.bool true) w := by kernel_rfl
theorem q80 (w : World) : (binOp .eql 29 (Err 8) .nilIface).run Try.prog w = .ok (.bool false) w := by kernel_rfl
theorem q100 (w : World) : (binOp .eql 29 (Err 10) .nilIface).run Try.prog w = .ok (.bool false) w := by kernel_rfl
theorem mx_least {p : Int × Int} (h1 : J64 p.1) (h2 : J64 p.2) : mxP (-9223372036854775808, -9223372036854775808) p = p := by
  unfold mxP pl
  unfold J64 at h1 h2
  split
  · rfl
  · rename_i hh
    simp only [decide_eq_true_eq] at hh
    have e1 : p.1 = -9223372036854775808 := by omega
    have e2 : p.2 = -9223372036854775808 := by omega
    rw [← e1]
    cases p
    simp only at e1 e2
    subst e1 e2
    rfl
theorem zip_least : ∀ (ps : List (Int × Int)), (∀ p ∈ ps, J64 p.1 ∧ J64 p.2) → List.zipWith mxP (List.replicate ps.length (-9223372036854775808, -9223372036854775808)) ps = ps
  | [], _ => rfl
  | p :: ps, h => by
    rw [List.length_cons, List.replicate_succ, List.zipWith_cons_cons, mx_least (h p (by simp)).1 (h p (by simp)).2, zip_least ps (fun q hq => h q (by simp [hq]))]
theorem lane_in {t key sh : Int} {l : List Int} (h0 : 1 ≤ sh) (h1 : sh ≤ 4) (hl : l.length ≤ 3) {j : Nat} {x : Int × Int × Int} (hx : (idL t key sh l)[j]? = some x) : 0 ≤ x.1 ∧ x.1 < (l.length : Int) * sh := by
  rw [idL_at] at hx
  cases hh : l[j]? with
  | none => rw [hh] at hx; cases hx
  | some r =>
    rw [hh] at hx
    simp only [Option.map_some, Option.some.injEq] at hx
    subst hx
    have hj := (List.getElem?_eq_some_iff.1 hh).1
    unfold idAt lnN flM
    dsimp only
    rw [if_neg (by omega)]
    have h2 := Int.emod_nonneg key (show sh ≠ 0 by omega)
    have h3 := Int.emod_lt_of_pos key (show 0 < sh by omega)
    generalize key % sh = m at *
    have hjm : (j : Int) * sh ≤ ((l.length : Int) - 1) * sh := Int.mul_le_mul_of_nonneg_right (by omega) (by omega)
    have hj0 : 0 ≤ (j : Int) * sh := Int.mul_nonneg (by omega) (by omega)
    have hlm : (l.length : Int) * sh ≤ 3 * 4 := Int.mul_le_mul (by omega) h1 (by omega) (by omega)
    rw [Int.sub_mul, Int.one_mul] at hjm
    generalize (j : Int) * sh = a at *
    generalize (l.length : Int) * sh = c at *
    unfold wrap64
    omega
/-- A stream that only samples were put to. -/
structure Dr (S : Sm) (res : List Int) (sh hd : Int) (k : Nat) : Prop where
  re : S.res = res
  es : S.sh = sh
  eh : S.hd = hd
  mr : S.mr = zOp
  len : (S.ho.length : Int) ≤ hd
  nx : S.nx ≤ (k : Int) + 1
  ct : S.ct = (newS res sh hd).ct
theorem Dr.pas {S : Sm} {res : List Int} {sh hd : Int} {k : Nat} (h : Dr S res sh hd k) (t : Int) : pas S t = false := by
  unfold Go.Proofs.Ytndmigjbdmkjdaa.pas mkd
  rw [h.mr]; rfl
theorem Dr.next {S : Sm} {res : List Int} {sh hd : Int} {k : Nat} (h : Dr S res sh hd k) : Dr S res sh hd (k + 1) := ⟨h.re, h.es, h.eh, h.mr, h.len, by have := h.nx; omega, h.ct⟩
theorem Dr.put {S : Sm} {res : List Int} {sh hd : Int} {k : Nat} (h : Dr S res sh hd k) (t y v : Int) (hh : ¬ S.hd ≤ (S.ho.length : Int)) : putN S ⟨S.nx, 1, t, y, v⟩ = 0 ∧ Dr (putS S ⟨S.nx, 1, t, y, v⟩) res sh hd (k + 1) := by
  have h1 : putN S ⟨S.nx, 1, t, y, v⟩ = 0 := by
    unfold putN
    rw [if_neg (by simp), if_pos rfl, h.pas]; rfl
  rw [putS_sample h1 rfl]
  have h2 := h.eh
  have h3 := h.nx
  exact ⟨h1, ⟨h.re, h.es, h.eh, h.mr, by show ((S.ho ++ [_]).length : Int) ≤ hd; rw [List.length_append, List.length_singleton]; omega, by show S.nx + 1 ≤ _; omega, h.ct⟩⟩
/-- What a cut drops. -/
theorem Dr.cut {S : Sm} {res : List Int} {sh hd : Int} {k : Nat} (h : Dr S res sh hd k) (hok : Oks S) {ps : List (Int × Int)} (hl : (ps.length : Int) = lanS S) (hf : ∀ p ∈ ps, J64 p.1 ∧ J64 p.2) : (cutS S ps).ho = S.ho.filter fun o => !((idL o.t o.y sh res).all (cov1 ps)) := by
  have hcl := hok.cl
  have hpl : S.ct = List.replicate ps.length (-9223372036854775808, -9223372036854775808) := by
    have e1 : S.ct.length = ps.length := by omega
    rw [h.ct] at e1 ⊢
    show List.replicate _ _ = _
    have e2 : (newS res sh hd).ct.length = res.length * sh.toNat := by show (List.replicate _ _).length = _; rw [List.length_replicate]
    rw [← e1, e2]
  have hct : (cutC S ps).ct = ps := by show List.zipWith mxP S.ct ps = ps; rw [hpl]; exact zip_least ps hf
  show (cutC S ps).ho.filter (fun o => !cov5 (cutC S ps) o) = _
  show S.ho.filter (fun o => !cov5 (cutC S ps) o) = _
  congr 1
  funext o
  congr 1
  unfold cov5 covL
  rw [hct]
  show (decide (0 < (idL o.t o.y S.sh S.res).length) && _) = _
  have hr := hok.r0
  rw [idL_len, decide_eq_true (by omega), Bool.true_and, show (cutC S ps).sh = S.sh from rfl, show (cutC S ps).res = S.res from rfl, h.re, h.es]
theorem bop_l {ops : Array Oper} {rest : List Oper} {o : Oper} {a : Act} {w : World} {Q : Exit → Act → World → Prop} (hw : Region.wanted o (yielded ops a.tmps) = true) {parts : Array (Nat × Operand)} (ho : o.op = .buildSlice 46 1 parts) (x : Op5)
    (hl : parts.map (fun (i, x) => (i, a.eval x)) = #[(0, opV x)])
    (h : ∀ W', Blk W' w.heap.size (opA x) 37 → Below w.heap.size w W' → wpList Try.prog ops Q rest (a.put o.dst (.slice (some ⟨w.heap.size, 0, none⟩) 1 1)) W') : wpList Try.prog ops Q (o :: rest) a w := by
  unfold wpList
  rw [if_pos hw]
  left
  exact bopW o.dst rfl ho x hl h
theorem bso0 (w : World) : (Instr.buildSlice 46 0 #[]).run Try.prog w = .ok (.slice (some ⟨w.heap.size, 0, none⟩) 0 0) (w.alloc (.cells #[] 37)) := by kernel_rfl
theorem bs_o0 {ops : Array Oper} {rest : List Oper} {o : Oper} {a : Act} {w : World} {Q : Exit → Act → World → Prop} (hw : Region.wanted o (yielded ops a.tmps) = true) {parts : Array (Nat × Operand)} (ho : o.op = .buildSlice 46 0 parts) (hl : parts.map (fun (i, x) => (i, a.eval x)) = #[])
    (h : ∀ W', EO E5 37 W' w.heap.size (.slice (some ⟨w.heap.size, 0, none⟩) 0 0) [] → Below w.heap.size w W' → wpList Try.prog ops Q rest (a.put o.dst (.slice (some ⟨w.heap.size, 0, none⟩) 0 0)) W') : wpList Try.prog ops Q (o :: rest) a w := by
  unfold wpList
  rw [if_pos hw]
  left
  unfold Oper.wp execOp
  simp only [ho, Sem.run_bind, hl, bso0, Result.andThen_ok]
  exact h _ (own_empty w w 37 5 (Nat.le_refl _)) ((Below.refl _ _).alloc (Nat.le_refl _) _)
set_option maxHeartbeats 8000000 in
theorem drops_walk (x : CsD) (vp : Value) (ps : List (Int × Int)) (w : World) (h : CsZ w x) (hps : ER E2 w vp ps) (hpf : ∀ p ∈ ps, J64 p.1 ∧ J64 p.2) : Calls Try.prog 5 #[.agg (csA x), vp] w fun e w' => e = .returned (.bool true) ∧ Below w.heap.size w w' := by
  obtain ⟨qr, nr, cr, res, sh, hd, q, n, cap, g, off, os⟩ := x
  obtain ⟨A, hE, hB, hw⟩ := blk1 w (csA ⟨qr, nr, cr, res, sh, hd, q, n, cap, g, off, os⟩) 25
  obtain ⟨qp, cp, ep⟩ := hps.form
  subst ep
  have hA := h.keep hw
  have k0 : A.cell? ⟨w.heap.size, 0, none⟩ = some (.slice qr nr cr) := hB.at rfl
  have k1 : A.cell? ⟨w.heap.size, 1, none⟩ = some (.int .i64 sh) := hB.at rfl
  have k2 : A.cell? ⟨w.heap.size, 2, none⟩ = some (.int .i64 hd) := hB.at rfl
  have k3 : A.cell? ⟨w.heap.size, 3, none⟩ = some (.slice q n cap) := hB.at rfl
  have hlo := fun (V : World) (hV : Below A.heap.size A V) => slong_any ⟨qr, nr, cr, res, sh, hd, q, n, cap, g, off, os⟩ V (hA.keep hV)
  have HNR : Hid (nr = res.length) := by
    obtain ⟨q', c', g', o', e, _⟩ := h.re
    have e' : Value.slice qr nr cr = .slice q' res.length c' := e
    cases e'; rfl
  unfold csA at hE hlo
  unfold csA
  dsimp only at hE hlo ⊢
  go_enter Try.func5, Try.ntmps5
  go_upto_region 3 with (go_at_call 9; refine (alive14_any _).mono ?_; rintro e W1 ⟨rfl, b1⟩)
  have hB1 := hB.keep b1
  have hlo1 := hlo W1 b1
  have j0 : W1.cell? ⟨w.heap.size, 0, none⟩ = some (.slice qr nr cr) := hB1.at rfl
  have j1 : W1.cell? ⟨w.heap.size, 1, none⟩ = some (.int .i64 sh) := hB1.at rfl
  have j2 : W1.cell? ⟨w.heap.size, 2, none⟩ = some (.int .i64 hd) := hB1.at rfl
  have j3 : W1.cell? ⟨w.heap.size, 3, none⟩ = some (.slice q n cap) := hB1.at rfl
  clear k0 k1 k2 k3 hE hlo
  by_cases hbig : 100 < (ps.length : Int)
  · go_wp2_with (go_at_call 10; refine hlo1.mono ?_; rintro e W2 ⟨⟨r, rfl⟩, b2⟩)
    all_goals
      go_ret
      exact ⟨rfl, ab_trans (ab_trans hw b1) b2⟩
  go_wp2_with (go_at_call 10; refine hlo1.mono ?_; rintro e W2 ⟨⟨r, rfl⟩, b2⟩; have hB2 := hB1.keep b2; have l0 : W2.cell? ⟨w.heap.size, 0, none⟩ = some (.slice qr nr cr) := hB2.at rfl; have l1 : W2.cell? ⟨w.heap.size, 1, none⟩ = some (.int .i64 sh) := hB2.at rfl; have l2 : W2.cell? ⟨w.heap.size, 2, none⟩ = some (.int .i64 hd) := hB2.at rfl)
  · go_ret
    exact ⟨rfl, ab_trans (ab_trans hw b1) b2⟩
  have hW2 := ab_trans (ab_trans hw b1) b2
  have h2 := (hA.keep b1).keep b2
  clear hlo1 hB hB1 hA j0 j1 j2 j3 b1 b2 hw
  cases hgd : goodF res sh hd
  · refine (snew_noL _ res sh hd W2 h2.re h2.rl hgd).mono ?_
    rintro e W3 ⟨rfl, b3⟩
    have e2 := n20
    go_wp2_with fail
    go_ret
    exact ⟨rfl, ab_trans hW2 b3⟩
  · refine (snew_ok _ res sh hd W2 h2.re (fun r hr => (h2.rb r hr).2) hgd).mono ?_
    rintro e W3 ⟨b, vr, vh0, vc, rfl, h3, b3⟩
    have hB3 := hB2.keep b3
    have j3 : W3.cell? ⟨w.heap.size, 3, none⟩ = some (.slice q n cap) := hB3.at rfl
    obtain ⟨-, ⟨hr1, hr3⟩, ⟨hs0, hs4⟩, hh0, hh4⟩ := goodF_iff.1 hgd
    have hDr0 : Dr (newS res sh hd) res sh hd 0 := ⟨rfl, rfl, rfl, rfl, by show ((0 : Nat) : Int) ≤ hd; omega, by show (1 : Int) ≤ _; omega, rfl⟩
    have e1 := q22
    have e3 := q80
    have e4 := q100
    have e5 := seq0
    have e6 := sne0
    have hrow : ScRow W2 q n cap g off os := h2.row
    have hre2 : Is W2 (.slice qr nr cr) res := h2.re
    have hrb : In64 res := h2.rb
    obtain ⟨hlen0, -, -, hfew, hp, hlt, hat⟩ := hrow
    clear h h2 hB3
    go_wp2_with fail
    go_loopw [44] (fun y wr => ∃ (k : Nat) (S : Sm) (vh : Value), k ≤ n ∧ y = .int .i64 (k : Int) ∧ Sq wr W2.heap.size b vr vh vc S ∧ Dr S res sh hd k ∧ Below W2.heap.size W2 wr) (fun y _ => n - (intOf y).toNat)
    case atStart => exact ⟨0, _, _, Nat.zero_le _, rfl, h3, hDr0, b3⟩
    case round =>
      clear h3 hDr0 b3 j3
      obtain ⟨k, S, vh, hk, rfl, hS, hR, hb⟩ := hrel
      by_cases ck : k = n
      · subst ck
        clear hat
        go_upto_region 16 with fail
        go_upto_region 17 with (go_at_call 23; refine (sheld_any wr hS).mono ?_; rintro e W4 ⟨v4, rfl, hO4, b4⟩)
        have hS4 := hS.keep b4
        have hb4 := ab_trans hb b4
        have hp4 := hps.keep (ab_trans hW2 hb4)
        obtain ⟨q4, c4, rfl⟩ := hO4.form
        have hfr4 : ∀ r, (Value.slice q4 S.ho.length c4).ownBlock = some r → ¬ bkS b vh vc r := fun r hr hk => by
          have h1 := (World.ownsRow.lt hO4 r hr).1
          have h2 := (hS.bkge hk).2
          omega
        by_cases hla : (ps.length : Int) = lanS S
        · have hlan := hS4.ok.lan
          have hc5 := scut_ok _ ps W4 hS4 hp4 (hps.outB (by omega) (fun r hr => Nat.le_trans hW2.size (hS4.bkge (.inr (.inr hr))).1)) hla hpf
          have hcut := hR.cut hS4.ok hla hpf
          obtain ⟨z, hz⟩ : ∃ z : Int, (nr : Int) * sh = z := ⟨_, rfl⟩
          have hzl : z = lanS S := by rw [← hz, HNR.out]; unfold lanS; rw [hR.re, hR.es]
          have hz0 : 0 ≤ z := by omega
          have hz1 : z ≤ 12 := by omega
          have hzp : ((ps.length : Int) != z) = false := by rw [hzl, ← hla]; simp
          clear hzl hla hlan
          go_upto_region 18 with (go_at_call 17; refine hc5.mono ?_; rintro e W5 ⟨rfl, vh5, h5, m5⟩)
          have hO5 : EO E5 37 W5 wr.heap.size (.slice q4 S.ho.length c4) S.ho := own_at hO4 fun r hr => m5.frm.other r (World.ownsRow.lt hO4 r hr).2 (hfr4 r hr)
          have hb5 := hS4.frmB m5 hb4 rfl
          go_upto_region 19 with (go_at_call 23; refine (sheld_any W5 h5).mono ?_; rintro e W6 ⟨v6, rfl, hO6, b6⟩)
          have hb6 := ab_trans hb5 b6
          have hB6 := hB2.keep hb6
          have hO46 := hO5.keep b6
          have hR6 := hre2.keep hb6
          have hp6 := hps.keep (ab_trans hW2 hb6)
          obtain ⟨q6, c6, rfl⟩ := hO6.form
          rw [hcut] at hO6
          have HN6 : Hid ((cutS S ps).ho.length = (S.ho.filter fun o => !((idL o.t o.y sh res).all (cov1 ps))).length) := by show _ = _; rw [hcut]
          have hE6 := hO6.er
          have hn6le : (cutS S ps).ho.length ≤ S.ho.length := by rw [hcut]; exact List.length_filter_le _ _
          generalize (cutS S ps).ho.length = N6 at *
          have l0 : W6.cell? ⟨w.heap.size, 0, none⟩ = some (.slice qr nr cr) := hB6.at rfl
          have l1 : W6.cell? ⟨w.heap.size, 1, none⟩ = some (.int .i64 sh) := hB6.at rfl
          have hhl : S.ho.length ≤ 100 := by have h1 := hR.len; omega
          have hfit := h5.ok.fit
          have hfS := hS4.ok.fit
          clear hc5 hS4 hS hb hb4 hb5 hp4 hO4 hO5 m5 h5 hfr4 hcut
          go_upto_region 21 with fail
          obtain ⟨W7, hE7, hZ7, b7⟩ := blk1 W6 #[] 37
          have hO7 : EO E5 37 W7 W6.heap.size (.slice (some ⟨W6.heap.size, 0, none⟩) 0 0) [] := by rw [← hE7]; exact own_empty W6 W6 37 5 (Nat.le_refl _)
          go_upto_region 22 with fail
          clear hE7 hZ7
          have hO47 := hO46.er
          have hW6 := ab_trans hW2 hb6
          clear hO46 hO6 l0 l1
          obtain ⟨qh, ch, gh, oh, eh, hch, hcmh, hph, hrh⟩ := hO47.at
          cases eh
          obtain ⟨qs, cs, gs, os', es, hcs', hcms, hps', hgs, hrs⟩ := hR6
          cases es
          obtain ⟨q9, c9, g9, o9, e9, -, -, hp9, hr9⟩ := hp6.at
          cases e9
          have hlane := fun (o : Op5) (j : Nat) (i : Int × Int × Int) (hi : (idL o.t o.y sh res)[j]? = some i) => lane_in hs0 hs4 hr3 hi
          rw [hz] at hlane
          have hzn : z = (ps.length : Int) := by have h1 := hzp; simp at h1; omega
          rw [hzn] at hlane
          have hfh : ∀ o ∈ S.ho, Fit5 o := hfS
          clear hz hzp hz0 hz1 hzn hO47 hp6 hfit hfS hps hre2 hB2 l2 hgd
          go_wp2_with fail
          go_loopw [14, 102] (fun v y wr => ∃ k : Nat, k ≤ S.ho.length ∧ y = .int .i64 (k : Int) ∧ EO E5 37 wr W6.heap.size v ((S.ho.take k).filter fun o => !((idL o.t o.y sh res).all (cov1 ps))) ∧ Below W6.heap.size W6 wr) (fun _ y _ => S.ho.length - (intOf y).toNat)
          case atStart => exact ⟨0, Nat.zero_le _, rfl, hO7, b7⟩
          case round =>
            clear hO7 b7
            obtain ⟨k2, hk2, rfl, hOw, hbw⟩ := hrel
            by_cases ck2 : k2 = S.ho.length
            · subst ck2
              rw [List.take_of_length_le (Nat.le_refl _)] at hOw
              have hcq := sops_any _ _ _ _ wr (hE6.keep hbw) hOw.er
              rw [decide_eq_true rfl] at hcq
              obtain ⟨qw, cw, ew⟩ := hOw.form
              subst ew
              rw [← HN6.out] at hcq ⊢
              clear hrh hrs hr9 hlane
              go_wp2_with (go_at_call 24; refine hcq.mono ?_; rintro e W9 ⟨rfl, b9⟩)
              go_ret
              exact ⟨rfl, ab_trans hW6 (ab_trans hbw b9)⟩
            · obtain ⟨o, ho⟩ : ∃ o, S.ho[k2]? = some o := ⟨S.ho[k2], List.getElem?_eq_getElem (by omega)⟩
              obtain ⟨rfl, hgh⟩ := hph (by omega)
              have hki : (k2 : Int) < (S.ho.length : Int) := by omega
              have a0 : wr.cell? ⟨gh, oh + k2 * 5, none⟩ = some (.int .i64 o.s) := keep_cell hbw (hrh k2 o ho 0 _ rfl) hgh
              have a1 : wr.cell? ⟨gh, oh + k2 * 5 + 1, none⟩ = some (.int .i64 o.k) := keep_cell hbw (hrh k2 o ho 1 _ rfl) hgh
              have a2 : wr.cell? ⟨gh, oh + k2 * 5 + 2, none⟩ = some (.int .i64 o.t) := keep_cell hbw (hrh k2 o ho 2 _ rfl) hgh
              have a3 : wr.cell? ⟨gh, oh + k2 * 5 + 3, none⟩ = some (.int .i64 o.y) := keep_cell hbw (hrh k2 o ho 3 _ rfl) hgh
              have a4 : wr.cell? ⟨gh, oh + k2 * 5 + 4, none⟩ = some (.int .i64 o.v) := keep_cell hbw (hrh k2 o ho 4 _ rfl) hgh
              obtain ⟨A1, hE1, hX1, hw1⟩ := blk1 wr (opA o) 37
              have hbA := ab_trans hbw hw1
              have hBA := hB6.keep hbA
              have l0 : A1.cell? ⟨w.heap.size, 0, none⟩ = some (.slice qr res.length cr) := hBA.at rfl
              have l1 : A1.cell? ⟨w.heap.size, 1, none⟩ = some (.int .i64 sh) := hBA.at rfl
              have y0 : A1.cell? ⟨wr.heap.size, 0, none⟩ = some (.int .i64 o.s) := hX1.at rfl
              have y1 : A1.cell? ⟨wr.heap.size, 1, none⟩ = some (.int .i64 o.k) := hX1.at rfl
              have y2 : A1.cell? ⟨wr.heap.size, 2, none⟩ = some (.int .i64 o.t) := hX1.at rfl
              have y3 : A1.cell? ⟨wr.heap.size, 3, none⟩ = some (.int .i64 o.y) := hX1.at rfl
              have y4 : A1.cell? ⟨wr.heap.size, 4, none⟩ = some (.int .i64 o.v) := hX1.at rfl
              have hfo := hfh o (List.mem_of_getElem? ho)
              have hids := rids_any o.s o.k o.t o.y o.v qr gs os' res.length cr res sh A1 rfl (by omega) hps' (fun h => Nat.lt_of_lt_of_le (hgs h) hbA.size) (irow_keep hrs (fun h => hgs h) hbA) hfo.t.1 hfo.t.2 hfo.y.1 hfo.y.2 (by omega) (fun j r h => (hrb r (List.mem_of_getElem? h)).2)
              have hOwA := hOw.keep hw1
              unfold opA at hE1
              clear hrh hrs hOw
              go_upto_region 27 with (go_at_call 25; refine hids.mono ?_; rintro e A2 ⟨v2, rfl, hown2, b2⟩; obtain ⟨hln2, q2, g2, c2, rfl, hq2, hg2, -, -, -, -, hr2, -⟩ := own_row3 hown2)
              have hbA2 := ab_trans hbA b2
              have hOw2 := hOwA.keep b2
              have hX2 := hX1.keep b2
              clear hE1 l0 l1 a0 a1 a2 a3 a4 y0 y1 y2 y3 y4 hids hown2 hOwA hX1 hBA
              go_wp2_with fail
              go_loopw [17, 113] (fun a y wr2 => ∃ j : Nat, j ≤ res.length ∧ a = .bool (((idL o.t o.y sh res).take j).all (cov1 ps)) ∧ y = .int .i64 (j : Int) ∧ Below A2.heap.size A2 wr2) (fun _ y _ => res.length - (intOf y).toNat)
              case atStart => exact ⟨0, Nat.zero_le _, rfl, rfl, Below.refl _ _⟩
              case round =>
                obtain ⟨j, hj, rfl, rfl, hbj⟩ := hrel
                by_cases cj : j = res.length
                · subst cj
                  rw [List.take_of_length_le (by omega)]
                  have hbX := ab_trans hbA2 hbj
                  have hOwX := hOw2.keep hbj
                  have hXX := hX2.keep hbj
                  have y0 : wr.cell? ⟨_, 0, none⟩ = some (.int .i64 o.s) := hXX.at rfl
                  have y1 : wr.cell? ⟨_, 1, none⟩ = some (.int .i64 o.k) := hXX.at rfl
                  have y2 : wr.cell? ⟨_, 2, none⟩ = some (.int .i64 o.t) := hXX.at rfl
                  have y3 : wr.cell? ⟨_, 3, none⟩ = some (.int .i64 o.y) := hXX.at rfl
                  have y4 : wr.cell? ⟨_, 4, none⟩ = some (.int .i64 o.v) := hXX.at rfl
                  have HF : Hid (∀ P : Op5 → Bool, (S.ho.take (k2 + 1)).filter P = (S.ho.take k2).filter P ++ (if P o = true then [o] else [])) := fun P => filt_snoc ho
                  have hfl : ((S.ho.take k2).filter fun o => !((idL o.t o.y sh res).all (cov1 ps))).length ≤ S.ho.length := Nat.le_trans (List.length_filter_le _ _) (by rw [List.length_take]; omega)
                  cases hal : (idL o.t o.y sh res).all (cov1 ps)
                  · have HX : Hid ((S.ho.take (k2 + 1)).filter (fun o => !((idL o.t o.y sh res).all (cov1 ps))) = (S.ho.take k2).filter (fun o => !((idL o.t o.y sh res).all (cov1 ps))) ++ [o]) := by show _ = _; rw [HF.out, hal]; rfl
                    clear HF hlane hr2 hr9
                    generalize hL : (S.ho.take k2).filter (fun o => !((idL o.t o.y sh res).all (cov1 ps))) = L at *
                    obtain ⟨qw, cw, ew⟩ := hOwX.form
                    subst ew
                    go_wp2_with (first
                      | (refine bop_l rfl rfl o (by simp only [List.map_toArray, List.map_cons, List.map_nil]; rfl) ?_; intro W8 hP8 b8)
                      | (at_builtin; refine app_eB W6.heap.size rfl rfl Try.underlying46 infoOp5 rfl (v := .slice qw L.length cw) rfl (hOwX.keep b8) rfl (er_one hP8) (by simp; omega) (by simp; omega) (ab_trans hbX b8).size ?_; intro v9 W9 hO9 hg9 hat9))
                    have hb9 := (ab_trans hbX b8).trans (below_ownE (hOwX.keep b8) (ab_trans hbX b8).size hg9)
                    rw [← HX.out] at hO9
                    exact ⟨⟨k2 + 1, by omega, by go_num, hO9, hb9⟩, by simp only [intOf]; omega⟩
                  · have HX : Hid ((S.ho.take (k2 + 1)).filter (fun o => !((idL o.t o.y sh res).all (cov1 ps))) = (S.ho.take k2).filter (fun o => !((idL o.t o.y sh res).all (cov1 ps)))) := by show _ = _; rw [HF.out, hal]; simp
                    clear HF hlane hr2 hr9
                    rw [← HX.out] at hOwX
                    go_wp2_with fail
                    exact ⟨⟨k2 + 1, by omega, by go_num, hOwX, hbX⟩, by simp only [intOf]; omega⟩
                · obtain ⟨⟨ln, wi, ky⟩, hi⟩ : ∃ i, (idL o.t o.y sh res)[j]? = some i := ⟨(idL o.t o.y sh res)[j]'(by omega), List.getElem?_eq_getElem _⟩
                  obtain ⟨rfl, hg2'⟩ : q2 = some ⟨g2, 0, none⟩ ∧ g2 < A2.heap.size := ⟨hq2 (by omega), hg2 (by omega)⟩
                  have hji : (j : Int) < (res.length : Int) := by omega
                  obtain ⟨r0, r1, r2⟩ := hr2 j _ hi
                  rw [Nat.zero_add] at r0 r1 r2
                  have s0 := keep_cell hbj r0 hg2'
                  have s1 := keep_cell hbj r1 hg2'
                  have s2 := keep_cell hbj r2 hg2'
                  dsimp only at s0 s1 s2
                  obtain ⟨hl0, hl1⟩ := hlane o j _ hi
                  dsimp only at hl0 hl1
                  have hcov : ∀ p, ps[ln.toNat]? = some p → cov1 ps (ln, wi, ky) = pl wi ky p.1 p.2 := fun p hp => by unfold cov1; dsimp only; rw [if_pos hl0, hp]
                  have hall : ((idL o.t o.y sh res).take (j + 1)).all (cov1 ps) = (((idL o.t o.y sh res).take j).all (cov1 ps) && cov1 ps (ln, wi, ky)) := by rw [List.take_add_one, hi]; simp
                  obtain ⟨lt, rfl⟩ : ∃ lt : Nat, ln = (lt : Int) := ⟨ln.toNat, by omega⟩
                  obtain ⟨p, hp⟩ : ∃ p, ps[lt]? = some p := ⟨ps[lt]'(by omega), List.getElem?_eq_getElem _⟩
                  have hcv := hcov p (by rw [Int.toNat_natCast]; exact hp)
                  rw [hcv] at hall
                  obtain ⟨rfl, hg9⟩ := hp9 (by omega)
                  have hbX := ab_trans hbA2 hbj
                  obtain ⟨A3, hE3, hX3, hw3⟩ := blk1 wr #[.int .i64 (lt : Int), .int .i64 wi, .int .i64 ky] 66
                  have hbX3 := ab_trans hbX hw3
                  have y0 : ∀ y : Cls A3, y.val.cell? ⟨wr.heap.size, 0, none⟩ = some (.int .i64 (lt : Int)) := fun y => (hX3.keep y.prop).at rfl
                  have y1 : ∀ y : Cls A3, y.val.cell? ⟨wr.heap.size, 1, none⟩ = some (.int .i64 wi) := fun y => (hX3.keep y.prop).at rfl
                  have y2 : ∀ y : Cls A3, y.val.cell? ⟨wr.heap.size, 2, none⟩ = some (.int .i64 ky) := fun y => (hX3.keep y.prop).at rfl
                  have c0 : ∀ y : Cls A3, y.val.cell? ⟨g9, o9 + lt * 2, none⟩ = some (.int .i64 p.1) := fun y => keep_cell (ab_trans hbX3 y.prop) (hr9 lt p hp 0 _ rfl) hg9
                  have c1 : ∀ y : Cls A3, y.val.cell? ⟨g9, o9 + lt * 2 + 1, none⟩ = some (.int .i64 p.2) := fun y => keep_cell (ab_trans hbX3 y.prop) (hr9 lt p hp 1 _ rfl) hg9
                  have HALL : Hid (((idL o.t o.y sh res).take (j + 1)).all (cov1 ps) = (((idL o.t o.y sh res).take j).all (cov1 ps) && pl wi ky p.1 p.2)) := hall
                  have hltn : lt < ps.length := by omega
                  clear hall hcv hcov hr2 hr9 hlane r0 r1 r2 hi
                  cases ha : ((idL o.t o.y sh res).take j).all (cov1 ps)
                  · have HA2 : Hid (((idL o.t o.y sh res).take (j + 1)).all (cov1 ps) = false) := by show _ = _; rw [HALL.out, ha]; rfl
                    go_upto_region 29 with fail
                    go_quiet (fail)
                    go_wp2_with fail
                    exact ⟨⟨j + 1, by omega, by rw [HA2.out], by go_num, ab_drewN (ab_trans hbj hw3) _⟩, by simp only [intOf]; omega⟩
                  · have HA2 : Hid (((idL o.t o.y sh res).take (j + 1)).all (cov1 ps) = pl wi ky p.1 p.2) := by show _ = _; rw [HALL.out, ha]; rfl
                    go_upto_region 29 with fail
                    have HZ := cls_some A3
                    refine wp_region_below (by kernel_rfl) (by kernel_rfl) ?_
                    repeat (go_big_quiet_step (first | (go_at_call 26; exact calls_below (rpless_any _ _ _ _ _))))
                    refine wpQuiet_nil ?_
                    rintro _ ⟨y, rfl⟩
                    go_wp2_with fail
                    exact ⟨⟨j + 1, by omega, by rw [HA2.out], by go_num, ab_trans (ab_trans hbj hw3) y.prop⟩, by simp only [intOf]; omega⟩
        · have hc5 := scut_no _ ps W4 hS4 hp4 hla
          obtain ⟨z, hz⟩ : ∃ z : Int, (nr : Int) * sh = z := ⟨_, rfl⟩
          have hzl : z = lanS S := by rw [← hz, HNR.out]; unfold lanS; rw [hR.re, hR.es]
          have hlan := hS4.ok.lan
          have hz0 : 0 ≤ z := by omega
          have hz1 : z ≤ 12 := by omega
          have hzp : ((ps.length : Int) != z) = true := by rw [hzl]; simpa using hla
          clear hzl hla hlan
          go_upto_region 18 with (go_at_call 17; refine hc5.mono ?_; rintro e W5 ⟨rfl, b5⟩)
          have h5 := hS4.keep b5
          have hb5 := ab_trans hb4 b5
          have hO5 := hO4.keep b5
          go_upto_region 19 with (go_at_call 23; refine (sheld_any W5 h5).mono ?_; rintro e W6 ⟨v6, rfl, hO6, b6⟩)
          have hb6 := ab_trans hb5 b6
          have hB6 := hB2.keep hb6
          have hO46 := hO5.keep b6
          obtain ⟨q6, c6, rfl⟩ := hO6.form
          have hcq := sops_any _ _ S.ho S.ho W6 hO46.er hO6.er
          rw [decide_eq_true rfl] at hcq
          have l0 : W6.cell? ⟨w.heap.size, 0, none⟩ = some (.slice qr nr cr) := hB6.at rfl
          have l1 : W6.cell? ⟨w.heap.size, 1, none⟩ = some (.int .i64 sh) := hB6.at rfl
          go_wp2_with (go_at_call 24; refine hcq.mono ?_; rintro e W7 ⟨rfl, b7⟩)
          go_ret
          exact ⟨rfl, ab_trans hW2 (ab_trans hb6 b7)⟩
      · obtain ⟨x, hx⟩ : ∃ x, os[k]? = some x := ⟨os[k], List.getElem?_eq_getElem (by omega)⟩
        obtain rfl := hp (by omega)
        have ox := (hat k x hx).keep (hlt (by omega)) hb
        obtain ⟨d0, d1, d2, d3, d4, d5, d6, d7, d8, d9, sl, hxf⟩ := ox
        obtain ⟨qx, cx, ex⟩ := sl.form
        rw [ex] at d9
        have hki : (k : Int) < (n : Int) := by omega
        obtain ⟨A1, hE1, hBo, hw1⟩ := blk1 wr #[.int .i64 x.kd, .int .i64 x.t, .int .i64 x.y, .int .i64 x.v, .int .i64 x.o.s, .int .i64 x.o.k, .int .i64 x.o.t, .int .i64 x.o.y, .int .i64 x.o.v, .slice qx x.ps.length cx] 40
        have hS1 := hS.keep hw1
        have hb1 : Below W2.heap.size W2 A1 := ab_trans hb hw1
        have y0 : A1.cell? ⟨wr.heap.size, 0, none⟩ = some (.int .i64 x.kd) := hBo.at rfl
        have y1 : A1.cell? ⟨wr.heap.size, 1, none⟩ = some (.int .i64 x.t) := hBo.at rfl
        have y2 : A1.cell? ⟨wr.heap.size, 2, none⟩ = some (.int .i64 x.y) := hBo.at rfl
        have y3 : A1.cell? ⟨wr.heap.size, 3, none⟩ = some (.int .i64 x.v) := hBo.at rfl
        clear hat hx hS hBo hb sl
        by_cases q0 : x.kd = 0
        · have g0 : (x.kd == 0) = true := by simp [q0]
          have hcs := ssample_any x.t x.y x.v A1 hS1
          have hpf2 := hR.pas x.t
          clear q0
          by_cases hho : S.hd ≤ (S.ho.length : Int)
          · have hN : sampN S x.t = 10 := by unfold sampN; rw [hpf2, if_neg (by decide), if_pos hho]
            have hO : sampO S x.t x.y x.v = zOp := by unfold sampO; rw [hN, if_neg (by decide)]
            rw [hN, hO] at hcs
            unfold opV opA zOp at hcs
            rw [show errV 10 = Err 10 from rfl] at hcs
            dsimp only at hcs
            go_wp2_with (first
              | (go_at_call 20; refine hcs.mono ?_; rintro e W4 ⟨rfl, b4⟩; obtain ⟨Z4, hE4, hZ4, hz4⟩ := blk1 W4 (opA zOp) 37; unfold opA zOp at hE4; dsimp only at hE4)
              | (refine st_op rfl rfl (k1 := zOp) hZ4 rfl rfl ?_; intro W5 hX5 C5))
            have hb5 : Below A1.heap.size A1 W5 := ab_chg (ab_trans b4 hz4) C5 (Nat.le_trans b4.size (Nat.le_refl _))
            exact ⟨⟨k + 1, S, vh, by omega, by go_num, hS1.keep hb5, hR.next, ab_trans hb1 hb5⟩, by simp only [intOf]; omega⟩
          · have hN : sampN S x.t = 0 := by unfold sampN; rw [hpf2, if_neg (by decide), if_neg hho]
            have hO : sampO S x.t x.y x.v = ⟨S.nx, 1, x.t, x.y, x.v⟩ := by unfold sampO; rw [if_pos hN]
            rw [hN, hO] at hcs
            unfold opV opA at hcs
            rw [show errV 0 = .nilIface from rfl] at hcs
            dsimp only at hcs
            go_upto_region 13 with (first
              | (go_at_call 20; refine hcs.mono ?_; rintro e W4 ⟨rfl, b4⟩; obtain ⟨Z4, hE4, hZ4, hz4⟩ := blk1 W4 (opA zOp) 37; unfold opA zOp at hE4; dsimp only at hE4)
              | (refine st_op rfl rfl (k1 := ⟨S.nx, 1, x.t, x.y, x.v⟩) hZ4 rfl rfl ?_; intro W5 hX5 C5))
            have hb5 : Below A1.heap.size A1 W5 := ab_chg (ab_trans b4 hz4) C5 (Nat.le_trans b4.size (Nat.le_refl _))
            have hS5 := hS1.keep hb5
            have hbb := ab_trans hb1 hb5
            obtain ⟨p1, hR6⟩ := hR.put x.t x.y x.v (by omega)
            have hn0 := hS5.ok.n0
            have hn1 := hS5.ok.n1
            have hlh : S.ho.length < 100000 := by have h1 := hR.len; omega
            have hnb : S.nx < 9223372036854775806 := by have h1 := hR.nx; omega
            have hcp := sput_any ⟨S.nx, 1, x.t, x.y, x.v⟩ W5 hS5 ⟨by unfold J64; dsimp only; omega, by unfold J64; dsimp only; omega, hxf.t, hxf.y, hxf.v⟩ (by omega) hlh
            rw [p1] at hcp
            unfold opV opA at hcp
            rw [show errV 0 = .nilIface from rfl] at hcp
            dsimp only at hcp
            have u0 : W5.cell? ⟨W4.heap.size, 0, none⟩ = some (.int .i64 S.nx) := hX5.at rfl
            have u1 : W5.cell? ⟨W4.heap.size, 1, none⟩ = some (.int .i64 1) := hX5.at rfl
            have u2 : W5.cell? ⟨W4.heap.size, 2, none⟩ = some (.int .i64 x.t) := hX5.at rfl
            have u3 : W5.cell? ⟨W4.heap.size, 3, none⟩ = some (.int .i64 x.y) := hX5.at rfl
            have u4 : W5.cell? ⟨W4.heap.size, 4, none⟩ = some (.int .i64 x.v) := hX5.at rfl
            clear hE4 hZ4 hz4 C5 hX5 hcs p1
            go_wp2_with (go_at_call 15; refine hcp.mono ?_; rintro e W6 ⟨rfl, vh6, h6, m6⟩)
            exact ⟨⟨k + 1, _, vh6, by omega, by go_num, h6, hR6, hS5.frmB m6 hbb rfl⟩, by simp only [intOf]; omega⟩
        · have g0 : (x.kd == 0) = false := by simp [q0]
          clear q0
          go_wp2_with fail
          exact ⟨⟨k + 1, S, vh, by omega, by go_num, hS1, hR.next, hb1⟩, by simp only [intOf]; omega⟩
end Go.Proofs.Ytndmigjbdmkjdaa.streamDrops
