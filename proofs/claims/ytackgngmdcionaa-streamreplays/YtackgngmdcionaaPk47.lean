/-
  Replays one behind the other give all that is held, and the last mark, in order, once: the walk of estuarylaw14.StreamReplays.
-/
import Derived.Test.YtackgngmdcionaaPk44
import Derived.Test.YtackgngmdcionaaPk37
import Derived.Test.YtackgngmdcionaaPk46
import Derived.Test.YtackgngmdcionaaPk32
import Derived.ProofKit
import Derived.OpenShut
import Derived.ChangeOld
import Derived.Below
namespace Go.Proofs.Ytackgngmdcionaa.streamReplays
open Go.ChangeShapes Go.WideShapes Go.ChangeAt Go.RowKit Go.Joins
set_option linter.unusedVariables false
set_option maxRecDepth 100000

theorem q80r (w : World) : (binOp .eql 29 (Err 8) .nilIface).run Try.prog w = .ok (.bool false) w := by kernel_rfl
theorem q90r (w : World) : (binOp .eql 29 (Err 9) .nilIface).run Try.prog w = .ok (.bool false) w := by kernel_rfl
theorem q100r (w : World) : (binOp .eql 29 (Err 10) .nilIface).run Try.prog w = .ok (.bool false) w := by kernel_rfl
theorem n20r (w : World) : (binOp .neq 29 (Err 2) .nilIface).run Try.prog w = .ok (.bool true) w := by kernel_rfl
theorem mod_natR (x : Int) : ∃ k : Nat, (k : Int) < 16 ∧ wrap64 ((IntKind.u64.wrap x).tmod 16) = (k : Int) := by
  have hu : 0 ≤ IntKind.u64.wrap x := by simp [IntKind.wrap, IntKind.signed, IntKind.bits]; omega
  have hm : 0 ≤ (IntKind.u64.wrap x).tmod 16 := Int.tmod_nonneg _ hu
  have hl : (IntKind.u64.wrap x).tmod 16 < 16 := Int.tmod_lt_of_pos _ (by omega)
  refine ⟨((IntKind.u64.wrap x).tmod 16).toNat, by omega, ?_⟩
  unfold wrap64
  omega
/-- What the law's calls leave of a stream. -/
structure Rr (S : Sm) (H : Int) (k : Nat) : Prop where
  hd : S.hd = H
  len : (S.ho.length : Int) ≤ H
  nx : S.nx ≤ (k : Int) + 1
  kd : Kd S
theorem Rr.next {S : Sm} {H : Int} {k : Nat} (h : Rr S H k) : Rr S H (k + 1) := ⟨h.hd, h.len, by have := h.nx; omega, h.kd⟩
theorem Rr.cut {S : Sm} {H : Int} {k : Nat} (h : Rr S H k) (ps : List (Int × Int)) : Rr (cutS S ps) H (k + 1) := by
  have h1 : (cutS S ps).ho.length ≤ S.ho.length := List.length_filter_le _ _
  have h2 := h.len
  have h3 := h.nx
  exact ⟨h.hd, by omega, by show S.nx ≤ _; omega, h.kd.cut ps⟩
theorem Rr.samp {S : Sm} {H : Int} {k : Nat} (h : Rr S H k) (h1 : 1 ≤ S.nx) (t y v : Int) (hN : sampN S t = 0) : putN S ⟨S.nx, 1, t, y, v⟩ = 0 ∧ Rr (putS S ⟨S.nx, 1, t, y, v⟩) H (k + 1) := by
  have hp : pas S t = false := by
    unfold sampN at hN
    cases c : pas S t
    · rfl
    · rw [c, if_pos rfl] at hN; cases hN
  have hh : ¬ S.hd ≤ (S.ho.length : Int) := fun c => by
    unfold sampN at hN
    rw [hp, if_neg (by decide), if_pos c] at hN; cases hN
  have h2 : putN S ⟨S.nx, 1, t, y, v⟩ = 0 := by
    unfold putN
    rw [if_neg (by simp), if_pos rfl, hp]; rfl
  refine ⟨h2, ?_⟩
  have hk := h.kd.put h1 ⟨S.nx, 1, t, y, v⟩
  rw [putS_sample h2 rfl] at hk ⊢
  have h3 := h.hd
  have h4 := h.nx
  exact ⟨h.hd, by show ((S.ho ++ [_]).length : Int) ≤ H; rw [List.length_append, List.length_singleton]; omega, by show S.nx + 1 ≤ _; omega, hk⟩
theorem Rr.mark {S : Sm} {H : Int} {k : Nat} (h : Rr S H k) (h1 : 1 ≤ S.nx) (t : Int) (hN : markN S t = 0) : putN S ⟨S.nx, 2, t, 0, 0⟩ = 0 ∧ Rr (putS S ⟨S.nx, 2, t, 0, 0⟩) H (k + 1) := by
  have hp : pas S t = false := by
    unfold markN at hN
    cases c : pas S t
    · rfl
    · rw [c, if_pos rfl] at hN; cases hN
  have h2 : putN S ⟨S.nx, 2, t, 0, 0⟩ = 0 := by
    unfold putN
    rw [if_neg (by simp), if_neg (by show ¬ (2 : Int) = 1; decide), if_pos rfl, hp, if_neg (by decide), if_pos ⟨rfl, rfl⟩]
  refine ⟨h2, ?_⟩
  have hk := h.kd.put h1 ⟨S.nx, 2, t, 0, 0⟩
  rw [putS_mark h2 (by show ¬ (2 : Int) = 1; decide)] at hk ⊢
  have h4 := h.nx
  exact ⟨h.hd, h.len, by show S.nx + 1 ≤ _; omega, hk⟩
theorem bop_lr {ops : Array Oper} {rest : List Oper} {o : Oper} {a : Act} {w : World} {Q : Exit → Act → World → Prop} (hw : Region.wanted o (yielded ops a.tmps) = true) {parts : Array (Nat × Operand)} (ho : o.op = .buildSlice 46 1 parts) (x : Op5)
    (hl : parts.map (fun (i, x) => (i, a.eval x)) = #[(0, opV x)])
    (h : ∀ W', Blk W' w.heap.size (opA x) 37 → Below w.heap.size w W' → wpList Try.prog ops Q rest (a.put o.dst (.slice (some ⟨w.heap.size, 0, none⟩) 1 1)) W') : wpList Try.prog ops Q (o :: rest) a w := by
  unfold wpList
  rw [if_pos hw]
  left
  exact bopW o.dst rfl ho x hl h
theorem filt_snocR {l : List Op5} {k : Nat} {o : Op5} {P : Op5 → Bool} (h : l[k]? = some o) : (l.take (k + 1)).filter P = (l.take k).filter P ++ (if P o = true then [o] else []) := by
  rw [List.take_add_one, h, List.filter_append]
  cases c : P o <;> simp [c]
set_option maxHeartbeats 8000000 in
theorem replays_walk (x : CsD) (most : Int) (w : World) (h : CsZ w x) : Calls Try.prog 6 #[.agg (csA x), .int .i64 most] w fun e w' => e = .returned (.bool true) ∧ Below w.heap.size w w' := by
  obtain ⟨qr, nr, cr, res, sh, hd, q, n, cap, g, off, os⟩ := x
  obtain ⟨A, hE, hB, hw⟩ := blk1 w (csA ⟨qr, nr, cr, res, sh, hd, q, n, cap, g, off, os⟩) 25
  obtain ⟨m0, hm0, em0⟩ := mod_natR most
  obtain ⟨mo, hmo⟩ : ∃ mo : Int, 1 + (m0 : Int) = mo := ⟨_, rfl⟩
  have hmo1 : 1 ≤ mo := by omega
  have hmo2 : mo ≤ 16 := by omega
  have hA := h.keep hw
  have k0 : A.cell? ⟨w.heap.size, 0, none⟩ = some (.slice qr nr cr) := hB.at rfl
  have k1 : A.cell? ⟨w.heap.size, 1, none⟩ = some (.int .i64 sh) := hB.at rfl
  have k2 : A.cell? ⟨w.heap.size, 2, none⟩ = some (.int .i64 hd) := hB.at rfl
  have k3 : A.cell? ⟨w.heap.size, 3, none⟩ = some (.slice q n cap) := hB.at rfl
  have hlo := fun (V : World) (hV : Below A.heap.size A V) => slong_any ⟨qr, nr, cr, res, sh, hd, q, n, cap, g, off, os⟩ V (hA.keep hV)
  unfold csA at hE hlo
  unfold csA
  dsimp only at hE hlo ⊢
  go_enter Try.func6, Try.ntmps6
  go_upto_region 3 with (go_at_call 9; refine (alive14_any _).mono ?_; rintro e W1 ⟨rfl, b1⟩)
  have hB1 := hB.keep b1
  have hlo1 := hlo W1 b1
  have j0 : W1.cell? ⟨w.heap.size, 0, none⟩ = some (.slice qr nr cr) := hB1.at rfl
  have j1 : W1.cell? ⟨w.heap.size, 1, none⟩ = some (.int .i64 sh) := hB1.at rfl
  have j2 : W1.cell? ⟨w.heap.size, 2, none⟩ = some (.int .i64 hd) := hB1.at rfl
  have j3 : W1.cell? ⟨w.heap.size, 3, none⟩ = some (.slice q n cap) := hB1.at rfl
  clear k0 k1 k2 k3 hE hlo
  go_wp2_with (go_at_call 10; refine hlo1.mono ?_; rintro e W2 ⟨⟨r, rfl⟩, b2⟩; have hB2 := hB1.keep b2; have l0 : W2.cell? ⟨w.heap.size, 0, none⟩ = some (.slice qr nr cr) := hB2.at rfl; have l1 : W2.cell? ⟨w.heap.size, 1, none⟩ = some (.int .i64 sh) := hB2.at rfl; have l2 : W2.cell? ⟨w.heap.size, 2, none⟩ = some (.int .i64 hd) := hB2.at rfl)
  · go_ret
    exact ⟨rfl, ab_trans (ab_trans hw b1) b2⟩
  have hW2 := ab_trans (ab_trans hw b1) b2
  have h2 := (hA.keep b1).keep b2
  clear hlo1 hB hB1 hA j0 j1 j2 j3 b1 b2 hw
  cases hgd : goodF res sh hd
  · refine (snew_noL _ res sh hd W2 h2.re h2.rl hgd).mono ?_
    rintro e W3 ⟨rfl, b3⟩
    have e2 := n20r
    go_wp2_with fail
    go_ret
    exact ⟨rfl, ab_trans hW2 b3⟩
  · refine (snew_ok _ res sh hd W2 h2.re (fun r hr => (h2.rb r hr).2) hgd).mono ?_
    rintro e W3 ⟨b, vr, vh0, vc, rfl, h3, b3⟩
    have hB3 := hB2.keep b3
    have j3 : W3.cell? ⟨w.heap.size, 3, none⟩ = some (.slice q n cap) := hB3.at rfl
    obtain ⟨-, ⟨hr1, hr3⟩, ⟨hs0, hs4⟩, hh0, hh4⟩ := goodF_iff.1 hgd
    have hRr0 : Rr (newS res sh hd) hd 0 := ⟨rfl, by show ((0 : Nat) : Int) ≤ hd; omega, by show (1 : Int) ≤ _; omega, kd_new _ _ _⟩
    have e3 := q80r
    have e4 := q90r
    have e7 := q100r
    have e5 := seq0
    have e6 := sne0
    have hrow : ScRow W2 q n cap g off os := h2.row
    have hpw : ∀ (k : Nat) (x : ScD), os[k]? = some x → ER E2 w x.vp x.ps := fun k x hx => (h.row.row k x hx).sp
    obtain ⟨hlen0, -, -, hfew, hp, hlt, hat⟩ := hrow
    clear h h2 hB3 hr1 hr3 hs0 hs4
    go_upto_region 9 with fail
    clear hm0 em0 hmo
    go_wp2_with fail
    go_loopw [48] (fun y wr => ∃ (k : Nat) (S : Sm) (vh : Value), k ≤ n ∧ y = .int .i64 (k : Int) ∧ Sq wr W2.heap.size b vr vh vc S ∧ Rr S hd k ∧ Below W2.heap.size W2 wr) (fun y _ => n - (intOf y).toNat)
    case atStart => exact ⟨0, _, _, Nat.zero_le _, rfl, h3, hRr0, b3⟩
    case round =>
      clear h3 hRr0 b3 j3
      obtain ⟨k, S, vh, hk, rfl, hS, hR, hb⟩ := hrel
      by_cases ck : k = n
      · subst ck
        generalize wr = W8 at *
        clear hat hpw e3 e4 e7 e5 e6
        have hok := hS.ok
        have hn1 := hok.n1
        have hn0 := hok.n0
        have hhd := hR.hd
        have hln := hR.len
        have hkd := hR.kd
        have hal : (allS S).length ≤ 65 := by
          unfold allS
          split
          · rw [insO_len]; omega
          · omega
        have hrep0 := rep_0 hok hkd
        obtain ⟨W7, hE7, hZ7, b7⟩ := blk1 W8 #[] 37
        have hO7 : EO E5 37 W7 W8.heap.size (.slice (some ⟨W8.heap.size, 0, none⟩) 0 0) ((allS S).take 0) := by rw [← hE7]; exact own_empty W8 W8 37 5 (Nat.le_refl _)
        go_wp2_with fail
        clear hE7 hZ7
        go_loopw [13, 14, 15] (fun v f c wv => ∃ (i j : Nat) (fr : Int), f = .int .i64 fr ∧ c = .int .i64 (j : Int) ∧ Rep S fr i j ∧ EO E5 37 wv W8.heap.size v ((allS S).take i) ∧ Below W8.heap.size W8 wv) (fun _ _ c _ => 1000 - (intOf c).toNat)
        case atStart => exact ⟨0, 0, 1, rfl, rfl, hrep0, hO7, b7⟩
        case round =>
          obtain ⟨i, j, fr, rfl, rfl, hRp, hO, hbv⟩ := hrel
          have hSv := hS.keep hbv
          have hf0 := hRp.f0
          have hf1 := hRp.f1
          have hci := hRp.ci
          have hile := hRp.fn.le
          have hsn := snext_any wr hSv
          have hj70 : (j : Int) < 500 := by split at hci <;> omega
          obtain ⟨qv, cv, ev⟩ := hO.form
          have hlt0 : ((allS S).take i).length ≤ 65 := by rw [List.length_take]; omega
          clear hci
          by_cases cf : fr = S.nx
          · have hfull : (allS S).take i = allS S := by subst cf; exact hRp.full hok
            have hcf : (fr != S.nx) = false := by simp [cf]
            have hcl : ¬ fr < S.nx := by omega
            rw [hfull] at hO ev
            subst ev
            obtain ⟨ls, lt, hlv, HLS⟩ : ∃ ls lt : Int, lastV S = .tuple #[.int .i64 ls, .int .i64 lt, .bool (mkd S)] ∧ Hid (mkd S = true → ls = S.mr.s ∧ lt = S.mr.t) := by
              cases c : mkd S
              · exact ⟨0, 0, by unfold lastV; rw [c]; rfl, fun h => by cases h⟩
              · exact ⟨S.mr.s, S.mr.t, by unfold lastV; rw [c]; rfl, fun _ => ⟨rfl, rfl⟩⟩
            have hlv2 : Hid (lastV S = .tuple #[.int .i64 ls, .int .i64 lt, .bool (mkd S)]) := hlv
            have HC : Hid (fr = S.nx) := cf
            clear cf hRp hlv hf1 hlt0 hile hfull
            go_upto_region 36 with (go_at_call 16; refine hsn.mono ?_; rintro e W5 ⟨rfl, hW5⟩; subst W5)
            obtain ⟨W6, hE6, hZ6, b6⟩ := blk1 wr #[] 37
            have hO6 : EO E5 37 W6 wr.heap.size (.slice (some ⟨wr.heap.size, 0, none⟩) 0 0) (((allS S).take 0).filter fun o => decide (o.k ≠ 2)) := by rw [← hE6]; exact own_empty wr wr 37 5 (Nat.le_refl _)
            have hla6 := slast_any W6 (hSv.keep b6)
            rw [hlv2.out] at hla6
            go_upto_region 38 with (go_at_call 22; refine hla6.mono ?_; rintro e W7' ⟨rfl, b7'⟩)
            clear hE6 hZ6 hla6 hsn hcf hcl
            have hO7' := hO6.keep b7'
            have hb7' := ab_trans b6 b7'
            have hG := hO.er
            have HKD : Hid (∀ u ∈ allS S, u.k = 2 → mkd S = true ∧ u = S.mr) := fun u hu hk => allS_kind hkd hu hk
            have HMONO : Hid (∀ (a b : Nat) (x y : Op5), (allS S)[a]? = some x → (allS S)[b]? = some y → a < b → x.s < y.s) := fun a b x y ha hb hab => by
              obtain ⟨q1, e1⟩ := List.getElem?_eq_some_iff.1 ha
              obtain ⟨q2, e2⟩ := List.getElem?_eq_some_iff.1 hb
              rw [← e1, ← e2]
              exact List.pairwise_iff_getElem.1 (allS_srt hok) a b q1 q2 hab
            have HHE : Hid ((allS S).filter (fun o => decide (o.k ≠ 2)) = S.ho) := allS_held hok hkd
            have HMR : Hid (mkd S = true → S.mr ∈ allS S) := fun hm => by unfold allS; rw [if_pos hm]; exact insO_mem.2 (.inr rfl)
            obtain ⟨N, hN⟩ : ∃ N, (allS S).length = N := ⟨_, rfl⟩
            obtain ⟨qh, ch, gh, oh, eh, hch, hcmh, hph, hrh⟩ := hG.at
            cases eh
            rw [hN] at hph hch hal ⊢
            have HN : Hid ((allS S).length = N) := hN
            have hst : (mkd S && !decide (S.mr ∈ (allS S).take 0)) = mkd S := by simp
            rw [← hst]
            clear hO hO6 b6 b7' hG hN hst HC hf0 hj70 hlv2
            generalize wr = Wq at *
            go_wp2_with fail
            go_loopw [18, 21, 144] (fun v a y wz => ∃ c : Nat, c ≤ N ∧ a = .bool (mkd S && !decide (S.mr ∈ (allS S).take c)) ∧ y = .int .i64 (c : Int) ∧ EO E5 37 wz Wq.heap.size v (((allS S).take c).filter fun o => decide (o.k ≠ 2)) ∧ Below Wq.heap.size Wq wz) (fun _ _ y _ => N - (intOf y).toNat)
            case atStart => exact ⟨0, Nat.zero_le _, rfl, rfl, hO7', hb7'⟩
            case round =>
              clear hO7' hb7'
              obtain ⟨c, hc, rfl, rfl, hOw, hbw⟩ := hrel
              by_cases cc : c = N
              · subst cc
                rw [List.take_of_length_le (Nat.le_of_eq HN.out)] at hOw ⊢
                rw [HHE.out] at hOw
                have hnk : (mkd S && !decide (S.mr ∈ allS S)) = false := by
                  cases hm : mkd S
                  · rfl
                  · simp [HMR.out hm]
                rw [hnk]
                obtain ⟨qw, cw, ew⟩ := hOw.form
                subst ew
                have hhe := sheld_any wr (hSv.keep hbw)
                clear hrh hnk HKD HMONO
                go_wp2_with (first
                  | (go_at_call 23; refine hhe.mono ?_; rintro e W9 ⟨v9, rfl, hO9, b9⟩; have hcq := sops_any _ _ S.ho S.ho W9 (hOw.keep b9).er hO9.er; rw [decide_eq_true rfl] at hcq; obtain ⟨q9, c9, e9⟩ := hO9.form; subst e9)
                  | (go_at_call 24; refine hcq.mono ?_; rintro e W10 ⟨rfl, b10⟩))
                go_ret
                exact ⟨rfl, ab_trans (ab_trans (ab_trans (ab_trans hW2 hb) hbv) hbw) (ab_trans b9 b10)⟩
              · obtain ⟨o, ho⟩ : ∃ o, (allS S)[c]? = some o := ⟨(allS S)[c]'(by have := HN.out; omega), List.getElem?_eq_getElem _⟩
                have hoA := List.mem_of_getElem? ho
                obtain ⟨rfl, hgh⟩ := hph (by omega)
                have hki : (c : Int) < (N : Int) := by omega
                have a0 : wr.cell? ⟨gh, oh + c * 5, none⟩ = some (.int .i64 o.s) := keep_cell hbw (hrh c o ho 0 _ rfl) hgh
                have a1 : wr.cell? ⟨gh, oh + c * 5 + 1, none⟩ = some (.int .i64 o.k) := keep_cell hbw (hrh c o ho 1 _ rfl) hgh
                have a2 : wr.cell? ⟨gh, oh + c * 5 + 2, none⟩ = some (.int .i64 o.t) := keep_cell hbw (hrh c o ho 2 _ rfl) hgh
                have a3 : wr.cell? ⟨gh, oh + c * 5 + 3, none⟩ = some (.int .i64 o.y) := keep_cell hbw (hrh c o ho 3 _ rfl) hgh
                have a4 : wr.cell? ⟨gh, oh + c * 5 + 4, none⟩ = some (.int .i64 o.v) := keep_cell hbw (hrh c o ho 4 _ rfl) hgh
                obtain ⟨V, hE1, hX1, hw1⟩ := blk1 wr (opA o) 37
                have hbV := ab_trans hbw hw1
                have hOV := hOw.keep hw1
                have y0 : V.cell? ⟨wr.heap.size, 0, none⟩ = some (.int .i64 o.s) := hX1.at rfl
                have y1 : V.cell? ⟨wr.heap.size, 1, none⟩ = some (.int .i64 o.k) := hX1.at rfl
                have y2 : V.cell? ⟨wr.heap.size, 2, none⟩ = some (.int .i64 o.t) := hX1.at rfl
                have y3 : V.cell? ⟨wr.heap.size, 3, none⟩ = some (.int .i64 o.y) := hX1.at rfl
                have y4 : V.cell? ⟨wr.heap.size, 4, none⟩ = some (.int .i64 o.v) := hX1.at rfl
                unfold opA at hE1
                have hWq := hbw.size
                by_cases c0 : c = 0
                · have hc0 : ¬ 0 < (c : Int) := by omega
                  have hc0n : ¬ 0 < c := by omega
                  have hc0d : decide (0 < c) = false := by simp; omega
                  clear hrh hOw c0
                  go_upto_region 41 with fail
                  clear a0 a1 a2 a3 a4
                  go_quiet (fail)
                  clear hc0 hc0n hc0d
                  have bq := ab_drewN (Below.refl V.heap.size V) nq
                  have hOV := hOV.keep bq
                  have hX1 := hX1.keep bq
                  have hbV := ab_trans hbV bq
                  clear y0 y1 y2 y3 y4
                  have y0 : (V.drewN nq).cell? ⟨wr.heap.size, 0, none⟩ = some (.int .i64 o.s) := hX1.at rfl
                  have y1 : (V.drewN nq).cell? ⟨wr.heap.size, 1, none⟩ = some (.int .i64 o.k) := hX1.at rfl
                  have y2 : (V.drewN nq).cell? ⟨wr.heap.size, 2, none⟩ = some (.int .i64 o.t) := hX1.at rfl
                  have y3 : (V.drewN nq).cell? ⟨wr.heap.size, 3, none⟩ = some (.int .i64 o.y) := hX1.at rfl
                  have y4 : (V.drewN nq).cell? ⟨wr.heap.size, 4, none⟩ = some (.int .i64 o.v) := hX1.at rfl
                  clear bq
                  generalize V.drewN nq = V at *
                  by_cases k2 : o.k = 2
                  · have gk : (o.k == 2) = true := by simp [k2]
                    obtain ⟨hmk, hom⟩ := HKD.out o hoA k2
                    have HF : Hid (((allS S).take (c + 1)).filter (fun o => decide (o.k ≠ 2)) = ((allS S).take c).filter (fun o => decide (o.k ≠ 2))) := by show _ = _; rw [filt_snocR ho, if_neg (by simp [k2]), List.append_nil]
                    have hin0 : (mkd S && !decide (S.mr ∈ (allS S).take c)) = true := by
                      rw [hmk, Bool.true_and]
                      have : S.mr ∉ (allS S).take c := fun hm => by
                        obtain ⟨e, he⟩ := List.mem_iff_getElem?.1 hm
                        rw [List.getElem?_take] at he
                        split at he
                        · have := HMONO.out e c S.mr o he ho (by assumption)
                          rw [hom] at this
                          omega
                        · cases he
                      simp [this]
                    have HIN : Hid ((mkd S && !decide (S.mr ∈ (allS S).take (c + 1))) = false) := by
                      show _ = _
                      have : S.mr ∈ (allS S).take (c + 1) := by rw [List.take_add_one, ho, hom]; simp
                      simp [this]
                    have hls := (HLS.out hmk).1
                    have hlt := (HLS.out hmk).2
                    rw [hin0]
                    have es : (o.s != ls) = false := by rw [hls, hom]; simp
                    have et : (o.t != lt) = false := by rw [hlt, hom]; simp
                    rw [← HF.out] at hOV
                    clear hom k2 hls hlt hin0 HF
                    go_wp2_with fail
                    exact ⟨⟨c + 1, by omega, by rw [HIN.out], by go_num, hOV, hbV⟩, by simp only [intOf]; omega⟩
                  · have gk : (o.k == 2) = false := by simp [k2]
                    have HF : Hid (((allS S).take (c + 1)).filter (fun o => decide (o.k ≠ 2)) = ((allS S).take c).filter (fun o => decide (o.k ≠ 2)) ++ [o]) := by show _ = _; rw [filt_snocR ho, if_pos (by simp [k2])]
                    have HIN : Hid ((mkd S && !decide (S.mr ∈ (allS S).take (c + 1))) = (mkd S && !decide (S.mr ∈ (allS S).take c))) := by
                      show _ = _
                      cases hmk : mkd S
                      · rfl
                      · have hne : S.mr ≠ o := fun e => k2 (by rw [← e]; exact hkd.mq hmk)
                        have : (S.mr ∈ (allS S).take (c + 1)) ↔ (S.mr ∈ (allS S).take c) := by rw [List.take_add_one, ho]; simp [hne]
                        simp [this]
                    have hfl : (((allS S).take c).filter (fun o => decide (o.k ≠ 2))).length ≤ 65 := Nat.le_trans (List.length_filter_le _ _) (by rw [List.length_take]; omega)
                    clear k2
                    generalize hL : ((allS S).take c).filter (fun o => decide (o.k ≠ 2)) = L at *
                    generalize (mkd S && !decide (S.mr ∈ (allS S).take c)) = okb at *
                    obtain ⟨qw, cw, ew⟩ := hOV.form
                    subst ew
                    have HOV : Hid (EO E5 37 V Wq.heap.size (.slice qw L.length cw) L) := hOV
                    clear hOV
                    go_wp2_with (first
                      | (refine bop_lr rfl rfl o (by simp only [List.map_toArray, List.map_cons, List.map_nil]; rfl) ?_; intro W8 hP8 b8)
                      | (at_builtin; refine app_eB Wq.heap.size rfl rfl Try.underlying46 infoOp5 rfl (v := .slice qw L.length cw) rfl (HOV.out.keep b8) rfl (er_one hP8) (by simp; omega) (by simp; omega) (ab_trans hbV b8).size ?_; intro v9 W9 hO9 hg9 hat9))
                    have hb9 := (ab_trans hbV b8).trans (below_ownE (HOV.out.keep b8) (ab_trans hbV b8).size hg9)
                    rw [← HF.out] at hO9
                    first
                      | exact ⟨⟨c + 1, by omega, by rw [HIN.out], by go_num, hO9, hb9⟩, by simp only [intOf]; omega⟩
                      | exact ⟨⟨_, _, _, _, _, _, ⟨c + 1, by omega, by rw [HIN.out], by go_num, by simpa using hO9, hb9⟩, rfl, rfl, rfl, rfl, rfl, rfl⟩, by simp only [intOf]; omega⟩
                · have hc0 : 0 < (c : Int) := by omega
                  have hc0n : 0 < c := by omega
                  have hc0d : decide (0 < c) = true := by simp; omega
                  obtain ⟨c1, hc1⟩ : ∃ c1 : Nat, c = c1 + 1 := ⟨c - 1, by omega⟩
                  obtain ⟨p, hpp⟩ : ∃ p, (allS S)[c1]? = some p := ⟨(allS S)[c1]'(by have := HN.out; omega), List.getElem?_eq_getElem _⟩
                  have hps : ¬ p.s ≥ o.s := by have := HMONO.out c1 c p o hpp ho (by omega); omega
                  have z0 : V.cell? ⟨gh, oh + c1 * 5, none⟩ = some (.int .i64 p.s) := keep_cell hbV (hrh c1 p hpp 0 _ rfl) hgh
                  have hc1i : (c : Int) - 1 = (c1 : Int) := by omega
                  have hc1n : c1 < N := by omega
                  have hc1m : (c1 : Int) < (N : Int) := by omega
                  clear hrh hOw hpp c0 hc1
                  go_upto_region 41 with fail
                  clear a0 a1 a2 a3 a4
                  go_quiet (fail)
                  clear hc0 hc0n hc0d
                  have bq := ab_drewN (Below.refl V.heap.size V) nq
                  have hOV := hOV.keep bq
                  have hX1 := hX1.keep bq
                  have hbV := ab_trans hbV bq
                  clear y0 y1 y2 y3 y4
                  have y0 : (V.drewN nq).cell? ⟨wr.heap.size, 0, none⟩ = some (.int .i64 o.s) := hX1.at rfl
                  have y1 : (V.drewN nq).cell? ⟨wr.heap.size, 1, none⟩ = some (.int .i64 o.k) := hX1.at rfl
                  have y2 : (V.drewN nq).cell? ⟨wr.heap.size, 2, none⟩ = some (.int .i64 o.t) := hX1.at rfl
                  have y3 : (V.drewN nq).cell? ⟨wr.heap.size, 3, none⟩ = some (.int .i64 o.y) := hX1.at rfl
                  have y4 : (V.drewN nq).cell? ⟨wr.heap.size, 4, none⟩ = some (.int .i64 o.v) := hX1.at rfl
                  clear bq
                  generalize V.drewN nq = V at *
                  by_cases k2 : o.k = 2
                  · have gk : (o.k == 2) = true := by simp [k2]
                    obtain ⟨hmk, hom⟩ := HKD.out o hoA k2
                    have HF : Hid (((allS S).take (c + 1)).filter (fun o => decide (o.k ≠ 2)) = ((allS S).take c).filter (fun o => decide (o.k ≠ 2))) := by show _ = _; rw [filt_snocR ho, if_neg (by simp [k2]), List.append_nil]
                    have hin0 : (mkd S && !decide (S.mr ∈ (allS S).take c)) = true := by
                      rw [hmk, Bool.true_and]
                      have : S.mr ∉ (allS S).take c := fun hm => by
                        obtain ⟨e, he⟩ := List.mem_iff_getElem?.1 hm
                        rw [List.getElem?_take] at he
                        split at he
                        · have := HMONO.out e c S.mr o he ho (by assumption)
                          rw [hom] at this
                          omega
                        · cases he
                      simp [this]
                    have HIN : Hid ((mkd S && !decide (S.mr ∈ (allS S).take (c + 1))) = false) := by
                      show _ = _
                      have : S.mr ∈ (allS S).take (c + 1) := by rw [List.take_add_one, ho, hom]; simp
                      simp [this]
                    have hls := (HLS.out hmk).1
                    have hlt := (HLS.out hmk).2
                    rw [hin0]
                    have es : (o.s != ls) = false := by rw [hls, hom]; simp
                    have et : (o.t != lt) = false := by rw [hlt, hom]; simp
                    rw [← HF.out] at hOV
                    clear hom k2 hls hlt hin0 HF
                    go_wp2_with fail
                    exact ⟨⟨c + 1, by omega, by rw [HIN.out], by go_num, hOV, hbV⟩, by simp only [intOf]; omega⟩
                  · have gk : (o.k == 2) = false := by simp [k2]
                    have HF : Hid (((allS S).take (c + 1)).filter (fun o => decide (o.k ≠ 2)) = ((allS S).take c).filter (fun o => decide (o.k ≠ 2)) ++ [o]) := by show _ = _; rw [filt_snocR ho, if_pos (by simp [k2])]
                    have HIN : Hid ((mkd S && !decide (S.mr ∈ (allS S).take (c + 1))) = (mkd S && !decide (S.mr ∈ (allS S).take c))) := by
                      show _ = _
                      cases hmk : mkd S
                      · rfl
                      · have hne : S.mr ≠ o := fun e => k2 (by rw [← e]; exact hkd.mq hmk)
                        have : (S.mr ∈ (allS S).take (c + 1)) ↔ (S.mr ∈ (allS S).take c) := by rw [List.take_add_one, ho]; simp [hne]
                        simp [this]
                    have hfl : (((allS S).take c).filter (fun o => decide (o.k ≠ 2))).length ≤ 65 := Nat.le_trans (List.length_filter_le _ _) (by rw [List.length_take]; omega)
                    clear k2
                    generalize hL : ((allS S).take c).filter (fun o => decide (o.k ≠ 2)) = L at *
                    generalize (mkd S && !decide (S.mr ∈ (allS S).take c)) = okb at *
                    obtain ⟨qw, cw, ew⟩ := hOV.form
                    subst ew
                    have HOV : Hid (EO E5 37 V Wq.heap.size (.slice qw L.length cw) L) := hOV
                    clear hOV
                    go_wp2_with (first
                      | (refine bop_lr rfl rfl o (by simp only [List.map_toArray, List.map_cons, List.map_nil]; rfl) ?_; intro W8 hP8 b8)
                      | (at_builtin; refine app_eB Wq.heap.size rfl rfl Try.underlying46 infoOp5 rfl (v := .slice qw L.length cw) rfl (HOV.out.keep b8) rfl (er_one hP8) (by simp; omega) (by simp; omega) (ab_trans hbV b8).size ?_; intro v9 W9 hO9 hg9 hat9))
                    have hb9 := (ab_trans hbV b8).trans (below_ownE (HOV.out.keep b8) (ab_trans hbV b8).size hg9)
                    rw [← HF.out] at hO9
                    first
                      | exact ⟨⟨c + 1, by omega, by rw [HIN.out], by go_num, hO9, hb9⟩, by simp only [intOf]; omega⟩
                      | exact ⟨⟨_, _, _, _, _, _, ⟨c + 1, by omega, by rw [HIN.out], by go_num, by simpa using hO9, hb9⟩, rfl, rfl, rfl, rfl, rfl, rfl⟩, by simp only [intOf]; omega⟩
          · have hfl : fr < S.nx := by omega
            obtain ⟨i', happ, hRp', hr1, hr2, hr3⟩ := hRp.next hok hfl hmo1
            have hcr := sreplay_any fr mo wr hSv (fun _ => insC_any hok.len hok.srt)
            have HAPP : Hid ((allS S).take i ++ repL S fr mo = (allS S).take i') := happ
            clear happ cf hRp hile
            generalize repN S fr mo = la at *
            generalize repL S fr mo = R at *
            generalize (allS S).take i = L at *
            subst ev
            have hl1 : ¬ la < fr := by omega
            have hl2 : ¬ la ≥ S.nx := by omega
            have hl3 : ¬ mo < (R.length : Int) := by omega
            go_wp2_with (first
              | (go_at_call 16; refine hsn.mono ?_; rintro e W5 ⟨rfl, hW5⟩; subst W5)
              | (go_at_call 27; refine hcr.mono ?_; rintro e W6 ⟨v6, rfl, hE6, b6⟩; obtain ⟨q6, c6, e6⟩ := hE6.form; subst e6; have hsn6 := snext_any W6 (hSv.keep b6))
              | (go_at_call 16; refine hsn6.mono ?_; rintro e W7 ⟨rfl, hW7⟩; subst W7)
              | (at_builtin; refine app_eB W8.heap.size rfl rfl Try.underlying46 infoOp5 rfl (v := .slice qv L.length cv) rfl (hO.keep b6) rfl hE6 (by omega) (by omega) (ab_trans hbv b6).size ?_; intro v9 W9 hO9 hg9 hat9))
            have hb9 := (ab_trans hbv b6).trans (below_ownE (hO.keep b6) (ab_trans hbv b6).size hg9)
            rw [HAPP.out] at hO9
            exact ⟨⟨i', j + 1, la + 1, by go_num, by go_num, hRp', hO9, hb9⟩, by simp only [intOf]; omega⟩
      · obtain ⟨x, hx⟩ : ∃ x, os[k]? = some x := ⟨os[k], List.getElem?_eq_getElem (by omega)⟩
        obtain rfl := hp (by omega)
        have ox := (hat k x hx).keep (hlt (by omega)) hb
        obtain ⟨d0, d1, d2, d3, d4, d5, d6, d7, d8, d9, sl, hxf⟩ := ox
        obtain ⟨qx, cx, ex⟩ := sl.form
        rw [ex] at d9
        have hpx := hpw k x hx
        rw [ex] at hpx
        have hki : (k : Int) < (n : Int) := by omega
        obtain ⟨A1, hE1, hBo, hw1⟩ := blk1 wr #[.int .i64 x.kd, .int .i64 x.t, .int .i64 x.y, .int .i64 x.v, .int .i64 x.o.s, .int .i64 x.o.k, .int .i64 x.o.t, .int .i64 x.o.y, .int .i64 x.o.v, .slice qx x.ps.length cx] 40
        have hS1 := hS.keep hw1
        have hb1 : Below W2.heap.size W2 A1 := ab_trans hb hw1
        have y0 : A1.cell? ⟨wr.heap.size, 0, none⟩ = some (.int .i64 x.kd) := hBo.at rfl
        have y1 : A1.cell? ⟨wr.heap.size, 1, none⟩ = some (.int .i64 x.t) := hBo.at rfl
        have y2 : A1.cell? ⟨wr.heap.size, 2, none⟩ = some (.int .i64 x.y) := hBo.at rfl
        have y3 : A1.cell? ⟨wr.heap.size, 3, none⟩ = some (.int .i64 x.v) := hBo.at rfl
        have y9 : A1.cell? ⟨wr.heap.size, 9, none⟩ = some (.slice qx x.ps.length cx) := hBo.at rfl
        clear hat hx hS hBo hb sl hpw
        by_cases q0 : x.kd = 0
        · have g0 : (x.kd == 0) = true := by simp [q0]
          have hcs := ssample_any x.t x.y x.v A1 hS1
          clear q0
          by_cases hps : pas S x.t = true
          · have hN : sampN S x.t = 8 := by unfold sampN; rw [if_pos hps]
            have hO : sampO S x.t x.y x.v = zOp := by unfold sampO; rw [hN, if_neg (by decide)]
            clear hps
            rw [hN, hO] at hcs
            unfold opV opA zOp at hcs
            rw [show errV 8 = Err 8 from rfl] at hcs
            dsimp only at hcs
            go_wp2_with (first
              | (go_at_call 20; refine hcs.mono ?_; rintro e W4 ⟨rfl, b4⟩; obtain ⟨Z4, hE4, hZ4, hz4⟩ := blk1 W4 (opA zOp) 37; unfold opA zOp at hE4; dsimp only at hE4)
              | (refine st_op rfl rfl (k1 := zOp) hZ4 rfl rfl ?_; intro W5 hX5 C5))
            have hb5 : Below A1.heap.size A1 W5 := ab_chg (ab_trans b4 hz4) C5 (Nat.le_trans b4.size (Nat.le_refl _))
            exact ⟨⟨k + 1, S, vh, by omega, by go_num, hS1.keep hb5, hR.next, ab_trans hb1 hb5⟩, by simp only [intOf]; omega⟩
          · by_cases hho : S.hd ≤ (S.ho.length : Int)
            · have hN : sampN S x.t = 10 := by unfold sampN; rw [if_neg hps, if_pos hho]
              have hO : sampO S x.t x.y x.v = zOp := by unfold sampO; rw [hN, if_neg (by decide)]
              clear hps
              rw [hN, hO] at hcs
              unfold opV opA zOp at hcs
              rw [show errV 10 = Err 10 from rfl] at hcs
              dsimp only at hcs
              go_wp2_with (first
                | (go_at_call 20; refine hcs.mono ?_; rintro e W4 ⟨rfl, b4⟩; obtain ⟨Z4, hE4, hZ4, hz4⟩ := blk1 W4 (opA zOp) 37; unfold opA zOp at hE4; dsimp only at hE4)
                | (refine st_op rfl rfl (k1 := zOp) hZ4 rfl rfl ?_; intro W5 hX5 C5))
              have hb5 : Below A1.heap.size A1 W5 := ab_chg (ab_trans b4 hz4) C5 (Nat.le_trans b4.size (Nat.le_refl _))
              exact ⟨⟨k + 1, S, vh, by omega, by go_num, hS1.keep hb5, hR.next, ab_trans hb1 hb5⟩, by simp only [intOf]; omega⟩
            · have hN : sampN S x.t = 0 := by unfold sampN; rw [if_neg hps, if_neg hho]
              have hO : sampO S x.t x.y x.v = ⟨S.nx, 1, x.t, x.y, x.v⟩ := by unfold sampO; rw [if_pos hN]
              clear hps
              rw [hN, hO] at hcs
              unfold opV opA at hcs
              rw [show errV 0 = .nilIface from rfl] at hcs
              dsimp only at hcs
              go_upto_region 15 with (first
                | (go_at_call 20; refine hcs.mono ?_; rintro e W4 ⟨rfl, b4⟩; obtain ⟨Z4, hE4, hZ4, hz4⟩ := blk1 W4 (opA zOp) 37; unfold opA zOp at hE4; dsimp only at hE4)
                | (refine st_op rfl rfl (k1 := ⟨S.nx, 1, x.t, x.y, x.v⟩) hZ4 rfl rfl ?_; intro W5 hX5 C5))
              have hb5 : Below A1.heap.size A1 W5 := ab_chg (ab_trans b4 hz4) C5 (Nat.le_trans b4.size (Nat.le_refl _))
              have hS5 := hS1.keep hb5
              have hbb := ab_trans hb1 hb5
              obtain ⟨p1, hR6⟩ := hR.samp hS5.ok.n0 x.t x.y x.v hN
              have hn0 := hS5.ok.n0
              have hn1 := hS5.ok.n1
              have hlh : S.ho.length < 100000 := by have h1 := hR.len; omega
              have hnb : S.nx < 9223372036854775806 := by have h1 := hR.nx; omega
              have hcp := sput_any ⟨S.nx, 1, x.t, x.y, x.v⟩ W5 hS5 ⟨by unfold J64; dsimp only; omega, by unfold J64; dsimp only; omega, hxf.t, hxf.y, hxf.v⟩ (by omega) hlh
              rw [p1] at hcp
              unfold opV opA at hcp
              rw [show errV 0 = .nilIface from rfl] at hcp
              dsimp only at hcp
              have u0 : W5.cell? ⟨W4.heap.size, 0, none⟩ = some (.int .i64 (S.nx)) := hX5.at rfl
              have u1 : W5.cell? ⟨W4.heap.size, 1, none⟩ = some (.int .i64 (1)) := hX5.at rfl
              have u2 : W5.cell? ⟨W4.heap.size, 2, none⟩ = some (.int .i64 (x.t)) := hX5.at rfl
              have u3 : W5.cell? ⟨W4.heap.size, 3, none⟩ = some (.int .i64 (x.y)) := hX5.at rfl
              have u4 : W5.cell? ⟨W4.heap.size, 4, none⟩ = some (.int .i64 (x.v)) := hX5.at rfl
              clear hE4 hZ4 hz4 C5 hX5 hcs p1
              go_wp2_with (go_at_call 15; refine hcp.mono ?_; rintro e W6 ⟨rfl, vh6, h6, m6⟩)
              exact ⟨⟨k + 1, _, vh6, by omega, by go_num, h6, hR6, hS5.frmB m6 hbb rfl⟩, by simp only [intOf]; omega⟩
        · have g0 : (x.kd == 0) = false := by simp [q0]
          by_cases q1 : x.kd = 1
          · have g1 : (x.kd == 1) = true := by simp [q1]
            have hcs := smark_any x.t A1 hS1
            clear q0 q1
            by_cases hps : pas S x.t = true
            · have hN : markN S x.t = 9 := by unfold markN; rw [if_pos hps]
              have hO : markO S x.t = zOp := by unfold markO; rw [hN, if_neg (by decide)]
              clear hps
              rw [hN, hO] at hcs
              unfold opV opA zOp at hcs
              rw [show errV 9 = Err 9 from rfl] at hcs
              dsimp only at hcs
              go_wp2_with (first
                | (go_at_call 21; refine hcs.mono ?_; rintro e W4 ⟨rfl, b4⟩; obtain ⟨Z4, hE4, hZ4, hz4⟩ := blk1 W4 (opA zOp) 37; unfold opA zOp at hE4; dsimp only at hE4)
                | (refine st_op rfl rfl (k1 := zOp) hZ4 rfl rfl ?_; intro W5 hX5 C5))
              have hb5 : Below A1.heap.size A1 W5 := ab_chg (ab_trans b4 hz4) C5 (Nat.le_trans b4.size (Nat.le_refl _))
              exact ⟨⟨k + 1, S, vh, by omega, by go_num, hS1.keep hb5, hR.next, ab_trans hb1 hb5⟩, by simp only [intOf]; omega⟩
            · have hN : markN S x.t = 0 := by unfold markN; rw [if_neg hps]
              have hO : markO S x.t = ⟨S.nx, 2, x.t, 0, 0⟩ := by unfold markO; rw [if_pos hN]
              clear hps
              rw [hN, hO] at hcs
              unfold opV opA at hcs
              rw [show errV 0 = .nilIface from rfl] at hcs
              dsimp only at hcs
              go_upto_region 19 with (first
                | (go_at_call 21; refine hcs.mono ?_; rintro e W4 ⟨rfl, b4⟩; obtain ⟨Z4, hE4, hZ4, hz4⟩ := blk1 W4 (opA zOp) 37; unfold opA zOp at hE4; dsimp only at hE4)
                | (refine st_op rfl rfl (k1 := ⟨S.nx, 2, x.t, 0, 0⟩) hZ4 rfl rfl ?_; intro W5 hX5 C5))
              have hb5 : Below A1.heap.size A1 W5 := ab_chg (ab_trans b4 hz4) C5 (Nat.le_trans b4.size (Nat.le_refl _))
              have hS5 := hS1.keep hb5
              have hbb := ab_trans hb1 hb5
              obtain ⟨p1, hR6⟩ := hR.mark hS5.ok.n0 x.t hN
              have hn0 := hS5.ok.n0
              have hn1 := hS5.ok.n1
              have hlh : S.ho.length < 100000 := by have h1 := hR.len; omega
              have hnb : S.nx < 9223372036854775806 := by have h1 := hR.nx; omega
              have hcp := sput_any ⟨S.nx, 2, x.t, 0, 0⟩ W5 hS5 ⟨by unfold J64; dsimp only; omega, by unfold J64; dsimp only; omega, hxf.t, by unfold J64; dsimp only; omega, by unfold J64; dsimp only; omega⟩ (by omega) hlh
              rw [p1] at hcp
              unfold opV opA at hcp
              rw [show errV 0 = .nilIface from rfl] at hcp
              dsimp only at hcp
              have u0 : W5.cell? ⟨W4.heap.size, 0, none⟩ = some (.int .i64 (S.nx)) := hX5.at rfl
              have u1 : W5.cell? ⟨W4.heap.size, 1, none⟩ = some (.int .i64 (2)) := hX5.at rfl
              have u2 : W5.cell? ⟨W4.heap.size, 2, none⟩ = some (.int .i64 (x.t)) := hX5.at rfl
              have u3 : W5.cell? ⟨W4.heap.size, 3, none⟩ = some (.int .i64 (0)) := hX5.at rfl
              have u4 : W5.cell? ⟨W4.heap.size, 4, none⟩ = some (.int .i64 (0)) := hX5.at rfl
              clear hE4 hZ4 hz4 C5 hX5 hcs p1
              go_wp2_with (go_at_call 15; refine hcp.mono ?_; rintro e W6 ⟨rfl, vh6, h6, m6⟩)
              exact ⟨⟨k + 1, _, vh6, by omega, by go_num, h6, hR6, hS5.frmB m6 hbb rfl⟩, by simp only [intOf]; omega⟩
          · have g1 : (x.kd == 1) = false := by simp [q1]
            by_cases q3 : x.kd = 3
            · have g3 : (x.kd == 3) = true := by simp [q3]
              have hp3 := hpx.keep (ab_trans hW2 hb1)
              clear q0 q1 q3
              by_cases hla : (x.ps.length : Int) = lanS S
              · have hlan := hS1.ok.lan
                have hc3 := scut_ok _ x.ps A1 hS1 hp3 (hpx.outB (by omega) (fun r hr => Nat.le_trans hW2.size (hS1.bkge (.inr (.inr hr))).1)) hla hxf.ps
                clear hla hlan
                go_wp2_with (go_at_call 17; refine hc3.mono ?_; rintro e W5 ⟨rfl, vh5, h5, m5⟩)
                exact ⟨⟨k + 1, _, vh5, by omega, by go_num, h5, hR.cut x.ps, hS1.frmB m5 hb1 rfl⟩, by simp only [intOf]; omega⟩
              · have hc3 := scut_no _ x.ps A1 hS1 hp3 hla
                clear hla
                go_wp2_with (go_at_call 17; refine hc3.mono ?_; rintro e W5 ⟨rfl, b5⟩; have h5 := hS1.keep b5)
                exact ⟨⟨k + 1, S, vh, by omega, by go_num, h5, hR.next, ab_trans hb1 b5⟩, by simp only [intOf]; omega⟩
            · have g3 : (x.kd == 3) = false := by simp [q3]
              clear q0 q1 q3
              go_wp2_with fail
              exact ⟨⟨k + 1, S, vh, by omega, by go_num, hS1, hR.next, hb1⟩, by simp only [intOf]; omega⟩
end Go.Proofs.Ytackgngmdcionaa.streamReplays
