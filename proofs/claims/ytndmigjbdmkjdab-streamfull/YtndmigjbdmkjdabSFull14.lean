/-
  A stream takes as many samples as it may hold, and again as many as are dropped: estuarylaw14.StreamFull returns true for every input; no condition.
-/
import Derived.Test.YtndmigjbdmkjdabPk36
import Derived.Test.YtndmigjbdmkjdabPk39
import Derived.ProofKit
import Derived.OpenShut
import Derived.ChangeOld
import Derived.Below
namespace Go.Proofs.Ytndmigjbdmkjdab.streamFull
open Go.ChangeShapes Go.WideShapes Go.ChangeAt Go.RowKit Go.Joins
set_option linter.unusedVariables false
set_option maxRecDepth 100000

theorem e1010 (w : World) : (binOp .eql 27 (Err 10) (Err 10)).run Try.prog w = .ok (.bool true) w := by kernel_rfl
theorem n1010 (w : World) : (binOp .neq 27 (Err 10) (Err 10)).run Try.prog w = .ok (.bool false) w := by kernel_rfl
theorem n100 (w : World) : (binOp .neq 27 (Err 10) .nilIface).run Try.prog w = .ok (.bool true) w := by kernel_rfl
theorem e100 (w : World) : (binOp .eql 27 (Err 10) .nilIface).run Try.prog w = .ok (.bool false) w := by kernel_rfl
theorem e010 (w : World) : (binOp .eql 27 .nilIface (Err 10)).run Try.prog w = .ok (.bool false) w := by kernel_rfl
theorem mod_nat14 (x : Int) (n : Int) (h0 : 0 < n) (h1 : n ≤ 4096) : ∃ k : Nat, (k : Int) < n ∧ wrap64 ((IntKind.u64.wrap x).tmod n) = (k : Int) := by
  have hu : 0 ≤ IntKind.u64.wrap x := by simp [IntKind.wrap, IntKind.signed, IntKind.bits]; omega
  have hm : 0 ≤ (IntKind.u64.wrap x).tmod n := Int.tmod_nonneg _ hu
  have hl : (IntKind.u64.wrap x).tmod n < n := Int.tmod_lt_of_pos _ h0
  refine ⟨((IntKind.u64.wrap x).tmod n).toNat, by omega, ?_⟩
  unfold wrap64
  omega
/-- A stream without marks, of one lane. -/
structure Fu (S : Sm) (H : Int) (n m : Nat) : Prop where
  mr : S.mr = zOp
  hd : S.hd = H
  len : S.ho.length = n
  nx : S.nx = (m : Int) + 1
  lan : lanS S = 1
theorem Fu.pas {S : Sm} {H : Int} {n m : Nat} (h : Fu S H n m) (t : Int) : pas S t = false := by
  unfold Go.Proofs.Ytndmigjbdmkjdab.pas mkd
  rw [h.mr]; rfl
theorem Fu.yes {S : Sm} {H : Int} {n m : Nat} (h : Fu S H n m) (hn : (n : Int) < H) (t y v : Int) : sampN S t = 0 ∧ sampO S t y v = ⟨(m : Int) + 1, 1, t, y, v⟩ := by
  have h1 : sampN S t = 0 := by unfold sampN; rw [h.pas, if_neg (by decide), h.hd, h.len, if_neg (by omega)]
  exact ⟨h1, by unfold sampO; rw [if_pos h1, h.nx]⟩
theorem Fu.no {S : Sm} {H : Int} {n m : Nat} (h : Fu S H n m) (hn : H ≤ (n : Int)) (t y v : Int) : sampN S t = 10 ∧ sampO S t y v = zOp := by
  have h1 : sampN S t = 10 := by unfold sampN; rw [h.pas, if_neg (by decide), h.hd, h.len, if_pos (by omega)]
  exact ⟨h1, by unfold sampO; rw [h1, if_neg (by decide)]⟩
theorem Fu.put {S : Sm} {H : Int} {n m : Nat} (h : Fu S H n m) (t y v : Int) : putN S ⟨(m : Int) + 1, 1, t, y, v⟩ = 0 ∧ Fu (putS S ⟨(m : Int) + 1, 1, t, y, v⟩) H (n + 1) (m + 1) := by
  have h1 : putN S ⟨(m : Int) + 1, 1, t, y, v⟩ = 0 := by
    unfold putN
    rw [if_neg (by simp [h.nx]), if_pos rfl, h.pas]; rfl
  refine ⟨h1, ?_⟩
  rw [putS_sample h1 rfl]
  exact ⟨h.mr, h.hd, by simp [h.len], by show S.nx + 1 = _; rw [h.nx]; omega, h.lan⟩
theorem Fu.cut {S : Sm} {H : Int} {n m : Nat} (h : Fu S H n m) (ps : List (Int × Int)) : Fu (cutS S ps) H (cutS S ps).ho.length m ∧ (cutS S ps).ho.length ≤ n := by
  refine ⟨⟨h.mr, h.hd, rfl, h.nx, h.lan⟩, ?_⟩
  rw [← h.len]
  exact List.length_filter_le _ _
set_option maxHeartbeats 4000000 in
theorem full_walk (ho0 : Int) (v : Value) (l : List Int) (cut : Int) (w : World) (hv : Is w v l) (hl64 : In64 l) (hcut : -9223372036854775808 ≤ cut ∧ cut ≤ 9223372036854775807) :
    Calls Try.prog 3 #[.int .i64 ho0, v, .int .i64 cut] w fun e w' => e = .returned (.bool true) ∧ Below w.heap.size w w' := by
  obtain ⟨q, cap, g, off, rfl, hc, hm, hp, hg, hr⟩ := hv
  obtain ⟨H0, hH, eH⟩ := mod_nat14 ho0 64 (by omega) (by omega)
  obtain ⟨H, hHe⟩ : ∃ H : Nat, H = H0 + 1 := ⟨_, rfl⟩
  have hH1 : 1 + (H0 : Int) = (H : Int) := by omega
  have hHb : 1 ≤ H ∧ H ≤ 64 := by omega
  clear hHe
  generalize hn : l.length = n at *
  go_enter Try.func3, Try.ntmps3
  go_upto_region 3 with (go_at_call 4; refine (alive14_any _).mono ?_; rintro e W1 ⟨rfl, b1⟩)
  go_upto_region 4 with fail
  by_cases hbig : 200 < (n : Int)
  · clear hr hp hg
    go_wp2_with fail
    go_ret
    exact ⟨rfl, b1⟩
  · have hgood : goodF [10] 1 (H : Int) = true := goodF_iff.2 ⟨by decide, by decide, by omega, by omega⟩
    go_upto_region 7 with (first
      | (refine bs_own rfl rfl [10] (by simp only [List.map_toArray, List.map_cons, List.map_nil]; rfl) (isl1 _ _) rfl (by decide) ?_; intro W2 hN b2 z2)
      | (go_at_call 5; refine (snew_ok _ [10] 1 (H : Int) _ (own_is hN) (by decide) hgood).mono ?_; rintro e W3 ⟨b, vr, vh0, vc, rfl, h3, b3⟩))
    have hbw : Below w.heap.size w W2 := ab_trans b1 b2
    have hF3 : Fu (newS [10] 1 (H : Int)) (H : Int) 0 0 := ⟨rfl, rfl, rfl, rfl, rfl⟩
    have e1 := e1010
    have e2 := n1010
    have e3 := n100
    have e4 := e100
    have e5 := e010
    clear hN z2 b2 b1 hgood eH hH hH1
    go_wp2_with fail
    go_loopw [9, 38] (fun x y wr => ∃ (k m : Nat) (S : Sm) (vh : Value), k ≤ n ∧ m ≤ k ∧ m ≤ H ∧ x = .int .i64 (m : Int) ∧ y = .int .i64 (k : Int) ∧ Sq wr W2.heap.size b vr vh vc S ∧ Fu S (H : Int) m m ∧ Below W2.heap.size W2 wr) (fun _ y _ => n - (intOf y).toNat)
    case atStart => exact ⟨0, 0, _, _, Nat.zero_le _, Nat.le_refl _, by omega, rfl, rfl, h3, hF3, b3⟩
    case round =>
      clear h3 hF3 b3
      obtain ⟨k, m, S, vh, hk, hmk, hmH, rfl, rfl, hS, hF, hb⟩ := hrel
      by_cases ck : k = n
      · subst ck
        clear hr hp hg
        go_upto_region 21 with fail
        have hlen0 := hF.len
        have hcu := fun (W' : World) (vp : Value) (hSS : Sq W' W2.heap.size b vr vh vc S) (hp : ER E2 W' vp [(cut, -9223372036854775808)]) (hx : OutB vp (fun r => vc.ownBlock = some r)) => scut_ok vp [(cut, -9223372036854775808)] W' hSS hp hx (by rw [hF.lan]; rfl) (fun p hp => by rw [List.mem_singleton.1 hp]; unfold J64; dsimp only; omega)
        obtain ⟨hF1, hle1⟩ := hF.cut [(cut, -9223372036854775808)]
        generalize hS1 : cutS S [(cut, -9223372036854775808)] = S1 at *
        obtain ⟨m1, hm1⟩ : ∃ m1, m1 = S1.ho.length := ⟨_, rfl⟩
        obtain ⟨K1, hK1⟩ : ∃ K1, m = m1 + K1 := ⟨m - m1, by omega⟩
        rw [← hm1] at hF1
        have HK : Hid (((S.ho.length : Int) - (S1.ho.length : Int)) = (K1 : Int)) := by show _ = _; omega
        have hmK : (K1 : Int) ≤ (m : Int) := by omega
        have hm1K : m1 + K1 ≤ H := by omega
        have HMK : Hid (m = m1 + K1) := hK1
        clear hK1 hm1 hle1 hlen0 hS1
        go_upto_region 22 with (first
          | (refine bpl_l rfl rfl cut (-9223372036854775808) (by simp only [List.map_toArray, List.map_cons, List.map_nil]; rfl) ?_; intro W10 hP10 b10)
          | (go_at_call 8; refine (hcu _ _ (hS.keep b10) (er_onep hP10) (fun a n c e hk => by cases e; exact hS.fresh (Nat.le_refl _) (.inr (.inr hk)))).mono ?_; rintro e W11 ⟨rfl, vh11, h11, m11⟩; rw [HK.out]))
        have hb11 := (hS.keep b10).frmB m11 (ab_trans hb b10) rfl
        clear hcu hS hF hb hP10 b10 m11 HK
        have hd1 : decide (m < K1) = false := decide_eq_false (by omega)
        have hd0 : decide ((K1 : Int) < 0) = false := decide_eq_false (by omega)
        have hd2 : decide ((m : Int) < (K1 : Int)) = false := decide_eq_false (by omega)
        go_wp2_with fail
        go_loopw [15] (fun x wr => ∃ (i : Nat) (S : Sm) (vh : Value), i ≤ K1 ∧ x = .int .i64 (i : Int) ∧ Sq wr W2.heap.size b vr vh vc S ∧ Fu S (H : Int) (m1 + i) (m + i) ∧ Below W2.heap.size W2 wr) (fun x _ => K1 - (intOf x).toNat)
        case atStart => exact ⟨0, _, _, Nat.zero_le _, rfl, h11, hF1, hb11⟩
        case round =>
          clear h11 hF1 hb11
          obtain ⟨i, S, vh, hi, rfl, hS, hF, hb⟩ := hrel
          have hcs := ssample_any 0 0 0 wr hS
          by_cases ci : i = K1
          · subst ci
            have hlm : S.ho.length = m := by rw [hF.len]; exact HMK.out.symm
            by_cases cH : m = H
            · obtain ⟨n1, n2⟩ := hF.no (by have := HMK.out; omega) 0 0 0
              rw [n1, n2] at hcs
              unfold opV opA zOp at hcs
              rw [show errV 10 = Err 10 from rfl] at hcs
              dsimp only at hcs
              have hmi : ((m : Int) == (H : Int)) = true := by simp [cH]
              go_wp2_with (first
                | (go_at_call 6; refine hcs.mono ?_; rintro e W12 ⟨rfl, b12⟩)
                | (go_at_call 9; refine (sheld_any W12 (hS.keep b12)).mono ?_; rintro e W13 ⟨v13, rfl, hO13, b13⟩; obtain ⟨q13, c13, e13⟩ := hO13.form; rw [e13, hlm]))
              go_ret
              exact ⟨rfl, ab_trans hbw (ab_trans hb (ab_trans b12 b13))⟩
            · obtain ⟨n1, n2⟩ := hF.yes (by have := HMK.out; omega) 0 0 0
              rw [n1, n2] at hcs
              unfold opV opA at hcs
              rw [show errV 0 = .nilIface from rfl] at hcs
              dsimp only at hcs
              have hmi : ((m : Int) == (H : Int)) = false := by simp; omega
              go_wp2_with (first
                | (go_at_call 6; refine hcs.mono ?_; rintro e W12 ⟨rfl, b12⟩)
                | (go_at_call 9; refine (sheld_any W12 (hS.keep b12)).mono ?_; rintro e W13 ⟨v13, rfl, hO13, b13⟩; obtain ⟨q13, c13, e13⟩ := hO13.form; rw [e13, hlm]))
              go_ret
              exact ⟨rfl, ab_trans hbw (ab_trans hb (ab_trans b12 b13))⟩
          · have hii : (i : Int) < (K1 : Int) := by omega
            obtain ⟨n1, n2⟩ := hF.yes (by omega) 0 0 0
            rw [n1, n2] at hcs
            unfold opV opA at hcs
            rw [show errV 0 = .nilIface from rfl] at hcs
            dsimp only at hcs
            obtain ⟨M, hM⟩ : ∃ M : Nat, M = m + i := ⟨_, rfl⟩
            rw [← hM] at hcs hF
            have hMb : M ≤ 300 := by omega
            have HM : Hid (M = m + i) := hM
            clear hM
            go_upto_region 28 with (first
              | (go_at_call 6; refine hcs.mono ?_; rintro e W5 ⟨rfl, b5⟩; obtain ⟨Z5, hE5, hZ5, hz5⟩ := blk1 W5 (opA zOp) 31; unfold opA zOp at hE5; dsimp only at hE5)
              | (refine st_op rfl rfl (k1 := ⟨(M : Int) + 1, 1, 0, 0, 0⟩) hZ5 rfl rfl ?_; intro W6 hX6 C6))
            have hb6 : Below wr.heap.size wr W6 := ab_chg (ab_trans b5 hz5) C6 (Nat.le_trans b5.size (Nat.le_refl _))
            have hS6 := hS.keep hb6
            obtain ⟨p1, hF7⟩ := hF.put 0 0 0
            have hlen := hF.len
            have hcp := sput_any ⟨(M : Int) + 1, 1, 0, 0, 0⟩ W6 hS6 (by constructor <;> (unfold J64; dsimp only; omega)) (by rw [hF.nx]; omega) (by omega)
            rw [p1] at hcp
            unfold opV opA at hcp
            rw [show errV 0 = .nilIface from rfl] at hcp
            dsimp only at hcp
            have y0 : W6.cell? ⟨W5.heap.size, 0, none⟩ = some (.int .i64 ((M : Int) + 1)) := hX6.at rfl
            have y1 : W6.cell? ⟨W5.heap.size, 1, none⟩ = some (.int .i64 1) := hX6.at rfl
            have y2 : W6.cell? ⟨W5.heap.size, 2, none⟩ = some (.int .i64 0) := hX6.at rfl
            have y3 : W6.cell? ⟨W5.heap.size, 3, none⟩ = some (.int .i64 0) := hX6.at rfl
            have y4 : W6.cell? ⟨W5.heap.size, 4, none⟩ = some (.int .i64 0) := hX6.at rfl
            have HFn : Hid (∀ S7, Fu S7 (H : Int) (m1 + i + 1) (M + 1) → Fu S7 (H : Int) (m1 + (i + 1)) (m + (i + 1))) := fun S7 h7 => by rw [HM.out] at h7; exact h7
            clear hE5 hZ5 hz5 C6 hX6 hcs
            go_wp2_with (go_at_call 7; refine hcp.mono ?_; rintro e W7 ⟨rfl, vh7, h7, m7⟩)
            have hb7 := hS6.frmB m7 (ab_trans hb hb6) rfl
            exact ⟨⟨i + 1, _, vh7, by omega, by go_num, h7, HFn.out _ hF7, hb7⟩, by simp only [intOf]; omega⟩
      · obtain ⟨t, ht⟩ : ∃ t, l[k]? = some t := ⟨l[k], List.getElem?_eq_getElem (by omega)⟩
        obtain rfl := hp (by omega)
        have hwr := ab_trans hbw hb
        have z0 := keep_cell hwr (hr k t ht) (hg (by omega))
        have ht64 := hl64 t (List.mem_of_getElem? ht)
        have hki : (k : Int) < (n : Int) := by omega
        have hcs := ssample_any t 0 t wr hS
        by_cases cH : m = H
        · obtain ⟨n1, n2⟩ := hF.no (by omega) t 0 t
          rw [n1, n2] at hcs
          unfold opV opA zOp at hcs
          rw [show errV 10 = Err 10 from rfl] at hcs
          dsimp only at hcs
          have hmi : ((m : Int) == (H : Int)) = true := by simp [cH]
          clear hr hp hg
          go_wp2_with (first
            | (go_at_call 6; refine hcs.mono ?_; rintro e W5 ⟨rfl, b5⟩; obtain ⟨Z5, hE5, hZ5, hz5⟩ := blk1 W5 (opA zOp) 31; unfold opA zOp at hE5; dsimp only at hE5)
            | (refine st_op rfl rfl (k1 := zOp) hZ5 rfl rfl ?_; intro W6 hX6 C6))
          have hb6 : Below wr.heap.size wr W6 := ab_chg (ab_trans b5 hz5) C6 (Nat.le_trans b5.size (Nat.le_refl _))
          exact ⟨⟨k + 1, m, S, vh, by omega, by omega, hmH, by rw [cH], by go_num, hS.keep hb6, hF, ab_trans hb hb6⟩, by simp only [intOf]; omega⟩
        · obtain ⟨n1, n2⟩ := hF.yes (by omega) t 0 t
          rw [n1, n2] at hcs
          unfold opV opA at hcs
          rw [show errV 0 = .nilIface from rfl] at hcs
          dsimp only at hcs
          have hmi : ((m : Int) == (H : Int)) = false := by simp; omega
          clear hr hp hg
          go_upto_region 14 with (first
            | (go_at_call 6; refine hcs.mono ?_; rintro e W5 ⟨rfl, b5⟩; obtain ⟨Z5, hE5, hZ5, hz5⟩ := blk1 W5 (opA zOp) 31; unfold opA zOp at hE5; dsimp only at hE5)
            | (refine st_op rfl rfl (k1 := ⟨(m : Int) + 1, 1, t, 0, t⟩) hZ5 rfl rfl ?_; intro W6 hX6 C6))
          have hb6 : Below wr.heap.size wr W6 := ab_chg (ab_trans b5 hz5) C6 (Nat.le_trans b5.size (Nat.le_refl _))
          have hS6 := hS.keep hb6
          obtain ⟨p1, hF7⟩ := hF.put t 0 t
          have hlen := hF.len
          have hcp := sput_any ⟨(m : Int) + 1, 1, t, 0, t⟩ W6 hS6 (by constructor <;> (unfold J64; dsimp only; omega)) (by rw [hF.nx]; omega) (by omega)
          rw [p1] at hcp
          unfold opV opA at hcp
          rw [show errV 0 = .nilIface from rfl] at hcp
          dsimp only at hcp
          have y0 : W6.cell? ⟨W5.heap.size, 0, none⟩ = some (.int .i64 ((m : Int) + 1)) := hX6.at rfl
          have y1 : W6.cell? ⟨W5.heap.size, 1, none⟩ = some (.int .i64 1) := hX6.at rfl
          have y2 : W6.cell? ⟨W5.heap.size, 2, none⟩ = some (.int .i64 t) := hX6.at rfl
          have y3 : W6.cell? ⟨W5.heap.size, 3, none⟩ = some (.int .i64 0) := hX6.at rfl
          have y4 : W6.cell? ⟨W5.heap.size, 4, none⟩ = some (.int .i64 t) := hX6.at rfl
          clear hE5 hZ5 hz5 C6 hX6 hcs
          go_wp2_with (go_at_call 7; refine hcp.mono ?_; rintro e W7 ⟨rfl, vh7, h7, m7⟩)
          have hb7 := hS6.frmB m7 (ab_trans hb hb6) rfl
          exact ⟨⟨k + 1, m + 1, _, vh7, by omega, by omega, by omega, by go_num, by go_num, h7, hF7, hb7⟩, by simp only [intOf]; omega⟩
theorem walk {W : World} (ho0 : Int) (hh : -9223372036854775808 ≤ ho0 ∧ ho0 ≤ 9223372036854775807) (v : Value) (l : List Int) (hv : Is W v l) (hl : In64 l) (cut : Int) (hc : -9223372036854775808 ≤ cut ∧ cut ≤ 9223372036854775807) :
    Calls Try.prog 3 #[.int .i64 ho0, v, .int .i64 cut] W fun e w' => e = .returned (.bool true) ∧ Below W.heap.size W w' := full_walk ho0 v l cut W hv hl hc

theorem own : ownKnob Try.prog.godebug = none := by kernel_rfl
theorem laidOut : laidOutB Try.prog = true := by kernel_rfl

set_option maxRecDepth 100000 in
theorem lifted (os : Os) (started : os.Started) (H : Type) (enc : TypeId × Value → H) :
    ReturnsInHanded {} Try.checked os 3 .any (Rows.streamFullSpec.pre6 enc Try.prog Try.f3 Rows.streamFullRow.domain false) (Rows.streamFullSpec.post enc Try.prog Try.f3 false true false false) := by
  refine returnsInHanded_of_change (C := Try.checked) own started (by kernel_rfl) Try.func3
    (ChangeSpec.witness6 (enc := enc) (C := Try.checked) false ⟨#[], #[.int .i64 0, .slice none 0 0, .int .i64 0], []⟩ 8 (by kernel_rfl) (by kernel_rfl) (by kernel_rfl) (by kernel_rfl)) ?_
  intro W base args ds gs before hval0 hW hcnd _
  have hval : ∀ (j : Nat) t v, Try.f3.params[j]? = some t → args[j]? = some v → Value.okWide Try.prog W .any base t v := hval0
  have hW' := hW
  obtain ⟨p, q, hA0, hV, rfl, hfz, hnd⟩ := hW
  have hA : DataW.TrodAll enc Try.prog W 0 (fun _ => true) true Try.f3.params.toList args.toList ds p := hA0
  rw [Try.params3] at hA hval
  obtain ⟨v0, vs0, d0, ds0, p0, q0, hargs, rfl, rfl, h0, r0⟩ := trodAll_cons hA
  obtain ⟨v1, vs1, d1, ds1, p1, q1, rfl, rfl, rfl, h1, r1⟩ := trodAll_cons r0
  obtain ⟨v2, vs2, d2, ds2, p2, q2, rfl, rfl, rfl, h2, r2⟩ := trodAll_cons r1
  obtain ⟨rfl, rfl, rfl⟩ := trodAll_nil r2
  obtain rfl : args = #[v0, v1, v2] := by cases args; simp_all
  obtain ⟨rfl, rfl⟩ := trodVars_none hV
  have k0 := h0
  have lt0 : ∀ x ∈ p0, x.block < W.heap.size := by obtain ⟨m, hm⟩ := k0; exact DataW.trod_lt m _ _ _ hm
  have k1 := h1
  have lt1 : ∀ x ∈ p1, x.block < W.heap.size := by obtain ⟨m, hm⟩ := k1; exact DataW.trod_lt m _ _ _ hm
  have k2 := h2
  have lt2 : ∀ x ∈ p2, x.block < W.heap.size := by obtain ⟨m, hm⟩ := k2; exact DataW.trod_lt m _ _ _ hm
  obtain ⟨a0, rfl, rfl, rfl, w0⟩ := open_int Try.underlying3 (hval 0 3 v0 rfl rfl) h0
  obtain ⟨l1_, S1_, B1_⟩ := open_nums (hval 1 22 v1 rfl rfl) h1
  obtain ⟨a2, rfl, rfl, rfl, w2⟩ := open_int Try.underlying3 (hval 2 3 v2 rfl rfl) h2
  clear hA0 hval0
  refine (walk a0 (bounds_i64 w0) v1 l1_ S1_ B1_ a2 (bounds_i64 w2)).mono fun e W' ⟨he, bel⟩ => ?_
  subst he
  exact ⟨_, rfl, _, _, _, [], _, [], hW', trodAll_mk1 (shut_bool Try.underlying4 _), (trodAll_cons_mk (Below.trod laidOut (by kernel_rfl) (of_decide_eq_true (by kernel_rfl)) k0 bel lt0) (trodAll_cons_mk (Below.trod laidOut (by kernel_rfl) (of_decide_eq_true (by kernel_rfl)) k1 bel lt1) (trodAll_cons_mk (Below.trod laidOut (by kernel_rfl) (of_decide_eq_true (by kernel_rfl)) k2 bel lt2) trodAll_mk0))), rfl, bel.frame _, fun h => by cases h⟩

theorem over : Rows.streamFullRow.holds Try.pinned (OpenSpec.ofChange Rows.streamFullSpec) :=
  OpenClaim.holds_of_wide 3 Try.f3 rfl rfl rfl rfl rfl rfl rfl ⟨rfl, rfl, rfl, rfl, rfl⟩ rfl rfl rfl rfl rfl (by kernel_rfl) Try.func3 (by kernel_rfl)
    (of_decide_eq_true (by kernel_rfl)) (by unfold Func.isWrapper; first | (rw [if_pos (by decide +kernel)]; kernel_rfl) | (rw [if_neg (by decide +kernel)]; exact ⟨rfl, rfl⟩))
    (fun os started H enc _ => lifted os started H enc)

theorem proved : Rows.StreamFullSaid := over
end Go.Proofs.Ytndmigjbdmkjdab.streamFull
namespace Go.Proofs.Ytndmigjbdmkjdab
theorem streamFull_holds : Rows.StreamFullSaid := streamFull.proved
#print axioms streamFull_holds
end Go.Proofs.Ytndmigjbdmkjdab
