/-
  RoundChains: over registers that answer as layer 9 says, whatever is lost, doubled and late, the rounds that come to tell are a chain: each one's value is its change on the value of some round ahead of it that is at least the last one that is done. For every number of keepers and all acts.
-/
import Derived.Test.YtodmhohccclhmaaPk33
import Derived.Test.YtodmhohccclhmaaPk35
import Derived.Test.YtodmhohccclhmaaPk36
import Derived.ProofKit
import Derived.OpenShut
import Derived.ChangeOld
import Derived.Below
import Derived.Lib.SmallJoins
namespace Go.Proofs.Ytodmhohccclhmaa.roundChains
open Go.ChangeShapes Go.WideShapes Go.ChangeAt Go.RowKit Go.Joins
set_option linter.unusedVariables false
set_option maxRecDepth 100000

theorem mod_kp (x : Int) : ∃ k : Nat, 1 ≤ k ∧ k ≤ 5 ∧ wrap64 (1 + wrap64 ((IntKind.u64.wrap x).tmod 5)) = (k : Int) := by
  obtain ⟨m, h1, h2⟩ := mod_nat11 x 5 (by omega) (by omega)
  refine ⟨m + 1, by omega, by omega, ?_⟩
  rw [h2]
  clear h2
  unfold wrap64
  omega
section
variable {ops : Array Oper} {rest : List Oper} {o : Oper} {a : Act} {w : World} {Q : Exit → Act → World → Prop}
theorem mk_regs (hw : Region.wanted o (yielded ops a.tmps) = true) {x y : Operand} (ho : o.op = .makeSlice 36 x y) {N : Int} {n : Nat} (hx : a.eval x = .int .i64 N) (hy : a.eval y = .int .i64 N) (hN : N = (n : Int)) (h1 : 1 ≤ n) (h5 : n ≤ 5)
    (h : wpList Try.prog ops Q rest (a.put o.dst (.slice (some ⟨w.heap.size, 0, none⟩) n n)) (w.alloc (.cells (flR (List.replicate n r0D)).toArray 61))) : wpList Try.prog ops Q (o :: rest) a w := by
  subst hN
  unfold wpList
  rw [if_pos hw]
  left
  exact mkSW o.dst rfl ho hx hy (mk_rg h1 h5 w) h
end
set_option maxHeartbeats 4000000 in
theorem walk {W : World} (kp : Int) (hk : -9223372036854775808 ≤ kp ∧ kp ≤ 9223372036854775807) (q : Option Addr) (n cap g off : Nat) (os : List AcD) (Z : AcRow W q n cap g off os) :
    Calls Try.prog 4 #[.int .i64 kp, .slice q n cap] W fun e w' => e = .returned (.bool true) ∧ Below W.heap.size W w' := by
  go_enter Try.func4, Try.ntmps4
  go_upto_region 3 with (go_at_call 9; refine (alive11_any _).mono ?_; rintro e W1 ⟨rfl, b1⟩)
  have Z1 := Z.keep b1
  go_wp2_with fail
  refine (good_any11 W1 q n cap g off os Z1).mono ?_
  rintro e W2 ⟨⟨b, rfl, hgd⟩, b2⟩
  have b12 := ab_trans b1 b2
  have Z2 := Z1.keep b2
  cases b
  · go_wp2_with fail
    go_ret
    exact ⟨rfl, b12⟩
  · obtain ⟨h400, hgd'⟩ := hgd rfl
    have HG : Hid (∀ x ∈ os, x.kd = 0 → gdG ⟨x.k, x.o, x.n⟩ = true) := hgd'
    clear hgd hgd' Z Z1 b1 b2
    obtain ⟨m, m1, m5, hme⟩ := mod_kp kp
    have HM : Hid (wrap64 (1 + wrap64 ((IntKind.u64.wrap kp).tmod 5)) = (m : Int)) := hme
    clear hme
    go_upto_region 6 with (refine mk_regs rfl rfl rfl rfl HM.out m1 m5 ?_; go_frame)
    obtain ⟨V, hV, hN0, bV⟩ := nw_new W2 m
    generalize hgen : World.alloc (World.alloc W2 _) _ = V1
    have e1 : V1 = V := by rw [← hgen, ← hV]; rfl
    subst e1
    clear hgen hV
    have Z3 := Z2.keep (Below.refl _ _)
    go_wp2_with fail
    refine (nrun_any W2 (W2.heap.size + 1) _ (net0 m) _ q n cap g off os (fun c => True) V1 hN0 (inv_0 m m1 m5) Z2 h400 (fun x hx h0 => ⟨HG.out x hx h0, trivial⟩) rfl rfl).mono ?_
    rintro e V ⟨rfl, P, S, acc, hN, hI, -, h30, -, -, bV1⟩
    have bV3 : Below W.heap.size W V := ab_trans b12 (bV.trans bV1)
    clear bV bV1 b12 hN0 Z2 Z3
    obtain ⟨L, hL⟩ : ∃ L, S.rd.length = L := ⟨_, rfl⟩
    obtain ⟨qd, cd, ed⟩ := hN.roundsF
    rw [hL] at ed h30
    have e1 := hN.cells.2.1 V (Below.refl _ _)
    rw [ed] at e1
    go_upto_block 0 with fail
    clear e1
    go_wp2_with fail
    go_loopw [36] (fun iv wr => ∃ j : Nat, j ≤ L ∧ iv = .int .i64 (j : Int) ∧ Below V.heap.size V wr) (fun iv _ => L - (intOf iv).toNat)
    case atStart => exact ⟨0, by omega, rfl, Below.refl _ _⟩
    case round =>
      obtain ⟨j, hj, rfl, hb⟩ := hrel
      by_cases cj : j = L
      · have i9 : ¬ (j : Int) < (L : Int) := by omega
        have i10 : ¬ j < L := by omega
        clear cj
        go_wp2_with fail
        go_ret
        exact ⟨rfl, ab_trans bV3 hb⟩
      · have hjn : j < L := by omega
        have hji : (j : Int) < (L : Int) := by omega
        clear cj
        obtain ⟨R, hR⟩ : ∃ R, S.rd[j]? = some R := ⟨S.rd[j]'(by omega), List.getElem?_eq_getElem _⟩
        obtain ⟨gd, cd', rb, e, hcd, hcm, hcell, hE0⟩ := hN.rdx hR
        have hE := hE0.keep hb
        rw [hL] at e hcd
        have hqq : qd = some ⟨gd, 0, none⟩ ∧ cd = cd' := by rw [ed] at e; injection e with a1 a2 a3; exact ⟨a1, a3⟩
        obtain ⟨rfl, rfl⟩ := hqq
        have hRv : R.v.length ≤ 32 := (hI.rok j R hR).le
        have hs1 := (hI.rok j R hR).lo
        have hs4 := (hI.rok j R hR).hi
        have hc0 := hcell wr hb
        go_upto_region 11 with fail
        obtain ⟨skip, hskip⟩ : ∃ b, (decide (R.st = 1) || (decide (R.st = 4) && decide (R.v.length = 0))) = b := ⟨_, rfl⟩
        have HK : Hid ((decide (R.st = 1) || (decide (R.st = 4) && decide (R.v.length = 0))) = skip) := hskip
        go_cut [54] from 41 to 53 (fun s wc => s = .bool skip ∧ Below wr.heap.size wr wc)
        case first =>
          obtain ⟨vv, hv10, -⟩ := hE.c10
          have hv0 := Below.refl wr.heap.size wr
          by_cases s1 : R.st = 1
          · have z1 : ((R.st : Int) == 1) = true := by rw [s1]; rfl
            have hf : skip = true := by rw [← hskip]; simp [s1]
            clear hskip s1
            subst hf
            go_wp2_with fail
            refine (rstage_any rb (R.st : Int) _ (hE.c7 _ hv0)).mono ?_
            rintro e _ ⟨rfl, rfl⟩
            go_wp2_with fail
            go_meet
            case rel => exact ⟨rfl, hv0⟩
          · have z1 : ((R.st : Int) == 1) = false := by rw [beq_eq_false_iff_ne]; omega
            by_cases s4 : R.st = 4
            · have z4 : ((R.st : Int) == 4) = true := by rw [s4]; rfl
              obtain ⟨nv, hnv⟩ : ∃ n, R.v.length = n := ⟨_, rfl⟩
              have hf : skip = decide (nv = 0) := by rw [← hskip, hnv]; simp [s4]
              clear hskip s4 s1
              go_wp2_with fail
              refine (rstage_any rb (R.st : Int) _ (hE.c7 _ hv0)).mono ?_
              rintro e _ ⟨rfl, rfl⟩
              go_wp2_with fail
              refine (rstage_any rb (R.st : Int) _ (hE.c7 _ hv0)).mono ?_
              rintro e _ ⟨rfl, rfl⟩
              go_wp2_with fail
              refine (rvalue_any rb vv R.v _ (hv10 _ hv0).1 (hv10 _ hv0).2 (by omega)).mono ?_
              rintro e X1 ⟨v4, rfl, hO4, b4⟩
              obtain ⟨q4, c4, e4⟩ := hO4.is.form
              rw [hnv] at e4
              subst e4
              by_cases n0 : nv = 0
              · have zn : ((nv : Int) == 0) = true := by rw [n0]; rfl
                have hf2 : skip = true := by rw [hf, n0]; rfl
                clear hf n0
                subst hf2
                go_wp2_with fail
                go_meet
                case rel => exact ⟨rfl, b4⟩
              · have zn : ((nv : Int) == 0) = false := by rw [beq_eq_false_iff_ne]; omega
                have hf2 : skip = false := by rw [hf]; simp [n0]
                clear hf n0
                subst hf2
                go_wp2_with fail
                go_meet
                case rel => exact ⟨rfl, b4⟩
            · have z4 : ((R.st : Int) == 4) = false := by rw [beq_eq_false_iff_ne]; omega
              have hf : skip = false := by rw [← hskip]; simp [s1, s4]
              clear hskip s1 s4
              subst hf
              go_wp2_with fail
              refine (rstage_any rb (R.st : Int) _ (hE.c7 _ hv0)).mono ?_
              rintro e _ ⟨rfl, rfl⟩
              go_wp2_with fail
              refine (rstage_any rb (R.st : Int) _ (hE.c7 _ hv0)).mono ?_
              rintro e _ ⟨rfl, rfl⟩
              go_wp2_with fail
              go_meet
              case rel => exact ⟨rfl, hv0⟩
        case rest =>
          obtain ⟨rfl, hbc⟩ := hcut
          have hbc' : Below wr.heap.size wr wc := hbc
          have hbw := ab_trans hb hbc'
          cases skip
          · have hsk : R.st ≠ 1 ∧ (R.st = 4 → R.v ≠ []) := by
              have := HK.out
              simp only [Bool.or_eq_false_iff, Bool.and_eq_false_iff, decide_eq_false_iff_not] at this
              refine ⟨this.1, fun h4 => ?_⟩
              rcases this.2 with h | h
              · exact absurd h4 h
              · intro e; rw [e] at h; exact h rfl
            have HSK : Hid (R.st ≠ 1 ∧ (R.st = 4 → R.v ≠ [])) := hsk
            clear hsk HK hskip hbc hbc' hc0 hE
            have m1 := hN.cells.2.1 wc hbw
            rw [ed] at m1
            go_upto_block 2 with fail
            clear m1
            go_wp2_with fail
            go_loopw [8, 60] (fun lv kv wr => ∃ (k : Nat) (low : Int), k ≤ L ∧ kv = .int .i64 (k : Int) ∧ lv = .int .i64 low ∧ LowI S R k low ∧ Below V.heap.size V wr) (fun _ kv _ => L - (intOf kv).toNat)
            case atStart => exact ⟨0, -1, by omega, rfl, rfl, low_0 S R, hbw⟩
            case round =>
              clear hbw hb
              obtain ⟨k, low, hk, rfl, rfl, hLow, hb⟩ := hrel
              have HLow : Hid (LowI S R k low) := hLow
              clear hLow
              have hN2 := hN.keep hb
              have he1 := hN2.cells.2.1
              rw [ed] at he1
              have hER := hE0.keep hb
              by_cases ck : k = L
              · have i9 : ¬ (k : Int) < (L : Int) := by omega
                have i10 : ¬ k < L := by omega
                have HLf : Hid (LowI S R L low) := ck ▸ HLow.out
                clear ck HLow
                as_aux_lemma =>
                  go_upto_region 19 with fail
                  clear i9 i10
                  obtain ⟨f0, hf0⟩ : ∃ b, (decide (low < 0) && aft [] R.c R.v) = b := ⟨_, rfl⟩
                  have HF0 : Hid ((decide (low < 0) && aft [] R.c R.v) = f0) := hf0
                  go_cut [11] from 94 to 107 (fun s wc => s = .bool f0 ∧ Below wr.heap.size wr wc)
                  case first =>
                    have hLow' : LowI S R L low := HLf.out
                    unfold LowI at hLow'
                    rcases hLow' with ⟨hlow, -⟩ | ⟨d, D, hlow, hD, -⟩
                    · have hf : f0 = aft [] R.c R.v := by rw [← hf0, hlow]; rfl
                      subst hlow
                      clear hf0
                      obtain ⟨gc, cc, vo, vn, ec, hcc, hcm2, hch'⟩ := hN.chx hR
                      rw [hL] at ec hcc
                      have hgk := (hI.rok j R hR).ok
                      have hch : ∀ U, Below wr.heap.size wr U → U.cell? ⟨gc, j * 3, none⟩ = some (.int .i64 R.c.k) ∧ U.cell? ⟨gc, j * 3 + 1, none⟩ = some vo ∧ U.cell? ⟨gc, j * 3 + 2, none⟩ = some vn ∧ Is U vo R.c.o ∧ Is U vn R.c.n := fun U hU => hch' U (ab_trans hb hU)
                      have he2 : ∀ U, Below wr.heap.size wr U → U.cell? ⟨W2.heap.size + 1, 2, none⟩ = some (.slice (some ⟨gc, 0, none⟩) L cc) := fun U hU => by rw [hN.cells.2.2.1 U (ab_trans hb hU), ec]
                      obtain ⟨q1, c1, e1⟩ := (hch wr (Below.refl _ _)).2.2.2.1.form
                      obtain ⟨q2, c2, e2⟩ := (hch wr (Below.refl _ _)).2.2.2.2.form
                      obtain ⟨n1, hn1⟩ : ∃ n, R.c.o.length = n := ⟨_, rfl⟩
                      obtain ⟨n2, hn2⟩ : ∃ n, R.c.n.length = n := ⟨_, rfl⟩
                      rw [hn1] at e1
                      rw [hn2] at e2
                      subst e1
                      subst e2
                      obtain ⟨vv, hv10, -⟩ := hER.c10
                      have HRc : Hid (R.c.o.length ≤ 1000 ∧ R.c.n.length ≤ 1000) := rdok_c hgk
                      clear hch' ec
                      refine region_L 12 (S := fun w' => Below wr.heap.size wr w') (by kernel_rfl) ((Below.refl _ _).drew) (fun hHeld => ?_)
                      have hdr : Below wr.heap.size wr wr.drew := hHeld
                      generalize wr.drew = V0 at *
                      refine takeP (i := 0) (some 94) (by rfl) rfl rfl (by kernel_rfl) (by kernel_rfl) (by kernel_rfl) (fun _ _ _ h => h) (by rfl) (fun w => by go_simp; try rfl) hHeld ?_
                      go_frame
                      refine takeP (i := 1) (some 95) (by rfl) rfl rfl (by kernel_rfl) (by kernel_rfl) (by kernel_rfl) (fun _ _ _ h => h) (by rfl) (fun w => by go_simp; try rfl) hHeld ?_
                      go_frame
                      refine takeP (i := 2) (some 96) (by rfl) rfl rfl (by kernel_rfl) (by kernel_rfl) (by kernel_rfl) (fun _ _ _ h => h) (by rfl) (fun w => by go_simp; try rfl) hHeld ?_
                      go_frame
                      refine takeP (i := 3) (some 97) (by rfl) rfl rfl (by kernel_rfl) (by kernel_rfl) (by kernel_rfl) (fun _ _ _ h => h) (by rfl) (fun w => by go_simp; try rfl) hHeld ?_
                      go_frame
                      refine takeP (i := 4) (some 98) (by rfl) rfl rfl (by kernel_rfl) (by kernel_rfl) (by kernel_rfl) (fun _ _ _ h => h) (by rfl) (fun w => by go_simp; try rfl) hHeld ?_
                      go_frame
                      refine takeP (i := 5) (some 99) (by rfl) rfl rfl (by kernel_rfl) (by kernel_rfl) (by kernel_rfl) (fun _ _ _ h => h) (by rfl) (fun w => by go_simp; try rfl) hHeld ?_
                      go_frame
                      refine takeP (i := 7) (some 101) (by rfl) rfl rfl (by kernel_rfl) (by kernel_rfl) (by kernel_rfl) (fun _ _ _ h => h) (by rfl) (fun w => by go_simp; try rfl) hHeld ?_
                      go_frame
                      refine takeP (i := 10) (some 104) (by rfl) rfl rfl (by kernel_rfl) (by kernel_rfl) (by kernel_rfl) (fun _ _ _ h => h) (by rfl) (fun w => by go_simp; try rfl) hHeld ?_
                      go_frame
                      refine takeL (i := 6) [8, 9, 12] (some 100) (by rfl) rfl rfl (by kernel_rfl) (by kernel_rfl) (by kernel_rfl) (by kernel_rfl) (fun _ _ _ h => h) (by rfl) (fun w hSw => by (try dsimp only at hSw); (have hcx := he2 _ hSw; go_simp; try rfl)) hHeld ?_
                      go_frame
                      refine takeP (i := 8) (some 102) (by rfl) rfl rfl (by kernel_rfl) (by kernel_rfl) (by kernel_rfl) (fun _ _ _ h => h) (by rfl) (fun w => by go_simp; try rfl) hHeld ?_
                      go_frame
                      refine takeL (i := 9) [12] (some 103) (by rfl) rfl rfl (by kernel_rfl) (by kernel_rfl) (by kernel_rfl) (by kernel_rfl) (fun _ _ _ h => h) (by rfl) (fun w hSw => by (try dsimp only at hSw); (have hcx := hch _ hSw; have t0 := hcx.1; have t1 := hcx.2.1; have t2 := hcx.2.2.1; clear hcx; go_simp; try rfl)) hHeld ?_
                      go_frame
                      refine anyL_ready (rs := [11]) (by kernel_rfl) (by simp) (AllL.cons rfl (fun K hK => ?_) AllL.nil)
                      go_simp
                      refine (rvalue_any rb vv R.v V0 (hv10 _ hdr).1 (hv10 _ hdr).2 (by omega)).mono ?_
                      rintro e W3 ⟨v3, rfl, hO3, b'⟩
                      show K _ _
                      obtain ⟨q3, c3, e3⟩ := hO3.is.form
                      obtain ⟨n3, hn3⟩ : ∃ n, R.v.length = n := ⟨_, rfl⟩
                      rw [hn3] at e3
                      subst e3
                      have hb3 := ab_trans hdr b'
                      refine hK.out _ _ hb3 (fun hHeld => ?_)
                      clear hK K
                      try go_frame
                      refine anyL_ready (rs := [12]) (by kernel_rfl) (by simp) (AllL.last rfl (by kernel_rfl) (fun K hK => ?_))
                      go_simp
                      refine (aft_any nilS (.slice q1 n1 c1) (.slice q2 n2 c2) (.slice q3 n3 c3) [] R.v R.c W3 (Is.nil _) (hch W3 hb3).2.2.2.1 (hch W3 hb3).2.2.2.2 hO3.is (by simp) HRc.out.1 HRc.out.2 (by omega)).mono ?_
                      rintro e W4 ⟨rfl, b4⟩
                      show K _ _
                      have hb4 := ab_trans hb3 b4
                      refine hK.out _ _ ?_
                      clear hK K
                      try go_frame
                      refine anyL_ready (rs := [13]) (by kernel_rfl) (by simp) (AllL.free rfl (by kernel_rfl) (fun K hK => ?_))
                      go_simp
                      refine hK.out _ _ ?_
                      clear hK K
                      try go_frame
                      refine anyL_ready (rs := [14]) (by kernel_rfl) (by simp) (AllL.free rfl (by kernel_rfl) (fun K hK => ?_))
                      go_simp
                      refine hK.out _ _ ?_
                      clear hK K
                      refine anyL_done (by kernel_rfl) ?_
                      go_wp2_with fail
                      go_meet
                      case rel => exact ⟨by rw [hf], hb4⟩
                    · have hdi : ¬ ((d : Int) < 0) := by omega
                      have hf : f0 = false := by rw [← hf0, hlow]; simp; intro h; omega
                      clear hf0
                      subst hf
                      subst hlow
                      have HZ := cls_some wr
                      refine wp_region_below (by kernel_rfl) (by kernel_rfl) ?_
                      repeat (go_big_quiet_step (fail))
                      refine wpQuiet_nil ?_
                      rintro _ ⟨y, rfl⟩
                      obtain ⟨V4, b4⟩ := y
                      dsimp only
                      clear HZ
                      go_wp2_with fail
                      go_meet
                      case rel => exact ⟨rfl, b4⟩
                  case rest =>
                    obtain ⟨rfl, hbc⟩ := hcut
                    have hbw : Below V.heap.size V wc := ab_trans hb hbc
                    clear hbc hf0 he1 hER hN2
                    have m1 := hN.cells.2.1 wc hbw
                    rw [ed] at m1
                    go_upto_block 4 with fail
                    clear m1
                    go_wp2_with fail
                    clear hb
                    go_loopw [11, 113] (fun fv kv wr => ∃ (k : Nat) (f : Bool), k ≤ L ∧ kv = .int .i64 (k : Int) ∧ fv = .bool f ∧ FndI S R low k f ∧ Below V.heap.size V wr) (fun _ kv _ => L - (intOf kv).toNat)
                    case atStart => exact ⟨0, f0, by omega, rfl, rfl, fnd_0 HF0.out, hbw⟩
                    case round =>
                      clear hbw
                      obtain ⟨k, f, hk, rfl, rfl, hFnd, hb⟩ := hrel
                      have HFnd : Hid (FndI S R low k f) := hFnd
                      clear hFnd
                      by_cases ck : k = L
                      · have i9 : ¬ (k : Int) < (L : Int) := by omega
                        have i10 : ¬ k < L := by omega
                        have ht : f = true := fnd_ok hI hR HSK.out.1 HSK.out.2 (by rw [hL]; exact HLf.out) (by rw [hL]; exact ck ▸ HFnd.out)
                        clear ck HFnd
                        subst ht
                        go_wp2_with fail
                        exact ⟨⟨j + 1, by omega, rfl, hb⟩, by simp only [intOf]; omega⟩
                      · have hkn : k < L := by omega
                        have hki : (k : Int) < (L : Int) := by omega
                        clear ck
                        have hN2 := hN.keep hb
                        have he1 := hN2.cells.2.1
                        rw [ed] at he1
                        have hER := hE0.keep hb
                        obtain ⟨Q, hQ⟩ : ∃ R, S.rd[k]? = some R := ⟨S.rd[k]'(by omega), List.getElem?_eq_getElem _⟩
                        obtain ⟨gd2, cd2, qb, e2, -, -, hcell2, hE2'⟩ := hN.rdx hQ
                        have hE2 := hE2'.keep hb
                        rw [hL] at e2
                        obtain ⟨g1, g1'⟩ := rdx_same ed e2
                        subst g1
                        clear g1' e2
                        have hQv : Q.v.length ≤ 32 := (hI.rok k Q hQ).le
                        have hqs := (hI.rok k Q hQ).lo
                        have hc2 := hcell2 wr hb
                        go_upto_region 23 with fail
                        clear hc2
                        obtain ⟨use, huse⟩ : ∃ b, (lt3 Q.b R.b && ((decide (low < 0) || !(match S.rd[low.toNat]? with | some D => lt3 Q.b D.b | none => true)) && decide (Q.st ≠ 1))) = b := ⟨_, rfl⟩
                        have HU : Hid ((lt3 Q.b R.b && ((decide (low < 0) || !(match S.rd[low.toNat]? with | some D => lt3 Q.b D.b | none => true)) && decide (Q.st ≠ 1))) = use) := huse
                        go_cut [144] from 117 to 143 (fun s wc => s = .bool use ∧ Below wr.heap.size wr wc)
                        case first =>
                          as_aux_lemma =>
                            have hLow' : LowI S R L low := HLf.out
                            unfold LowI at hLow'
                            cases hl1 : lt3 Q.b R.b
                            · have hf : use = false := by rw [← huse, hl1]; rfl
                              clear huse
                              subst hf
                              have HZ := cls_some wr
                              refine wp_region_below (by kernel_rfl) (by kernel_rfl) ?_
                              repeat (go_big_quiet_step (fail))
                              go_big_quiet_step (first | (go_at_call 15; exact calls_below (rballot_any qb Q.b _ (hE2.c1 _ (Cls.prop _)) (hE2.c2 _ (Cls.prop _)) (hE2.c3 _ (Cls.prop _)))))
                              repeat (go_big_quiet_step (fail))
                              go_big_quiet_step (first | (go_at_call 15; exact calls_below (rballot_any rb R.b _ (hER.c1 _ (Cls.prop _)) (hER.c2 _ (Cls.prop _)) (hER.c3 _ (Cls.prop _)))))
                              repeat (go_big_quiet_step (fail))
                              go_big_quiet_step (first | (go_at_call 14; exact calls_below (rbless_v hl1)))
                              repeat (go_big_quiet_step (fail))
                              refine wpQuiet_nil ?_
                              rintro _ ⟨y, rfl⟩
                              obtain ⟨V4, b4⟩ := y
                              dsimp only
                              clear HZ
                              go_wp2_with fail
                              go_meet
                              case rel => exact ⟨rfl, b4⟩
                            · by_cases s1 : Q.st = 1
                              · have z1 : ((Q.st : Int) != 1) = false := by rw [s1]; rfl
                                have hf : use = false := by rw [← huse, s1]; simp
                                clear huse s1
                                subst hf
                                rcases hLow' with ⟨hlow, -⟩ | ⟨d, D, hlow, hD, -⟩
                                · subst hlow
                                  have HZ := cls_some wr
                                  refine wp_region_below (by kernel_rfl) (by kernel_rfl) ?_
                                  repeat (go_big_quiet_step (fail))
                                  go_big_quiet_step (first | (go_at_call 15; exact calls_below (rballot_any qb Q.b _ (hE2.c1 _ (Cls.prop _)) (hE2.c2 _ (Cls.prop _)) (hE2.c3 _ (Cls.prop _)))))
                                  repeat (go_big_quiet_step (fail))
                                  go_big_quiet_step (first | (go_at_call 15; exact calls_below (rballot_any rb R.b _ (hER.c1 _ (Cls.prop _)) (hER.c2 _ (Cls.prop _)) (hER.c3 _ (Cls.prop _)))))
                                  repeat (go_big_quiet_step (fail))
                                  go_big_quiet_step (first | (go_at_call 14; exact calls_below (rbless_v hl1)))
                                  repeat (go_big_quiet_step (fail))
                                  go_big_quiet_step (first | (go_at_call 12; exact calls_same (rstage_any qb (Q.st : Int) _ (hE2.c7 _ (Cls.prop _)))))
                                  repeat (go_big_quiet_step (fail))
                                  refine wpQuiet_nil ?_
                                  rintro _ ⟨y, rfl⟩
                                  obtain ⟨V4, b4⟩ := y
                                  dsimp only
                                  clear HZ
                                  go_wp2_with fail
                                  go_meet
                                  case rel => exact ⟨rfl, b4⟩
                                · have hdl : d < L := by rw [← hL]; exact (List.getElem?_eq_some_iff.1 hD).1
                                  have hdi : ¬ ((d : Int) < 0) := by omega
                                  have hdL : (d : Int) < (L : Int) := by omega
                                  subst hlow
                                  obtain ⟨gd3, cd3, db, e3, -, -, hcell3, hE3'⟩ := hN.rdx hD
                                  have hE3 := hE3'.keep hb
                                  rw [hL] at e3
                                  obtain ⟨g3, g3'⟩ := rdx_same ed e3
                                  subst g3
                                  clear g3' e3
                                  have k1 : ∀ y : Cls wr, y.val.cell? ⟨W2.heap.size + 1, 1, none⟩ = some (.slice (some ⟨gd3, 0, none⟩) L cd) := fun y => he1 _ y.prop
                                  have k2 : ∀ y : Cls wr, y.val.cell? ⟨gd3, d, none⟩ = some (rptr db) := fun y => hcell3 _ (ab_trans hb y.prop)
                                  cases hl2 : lt3 Q.b D.b
                                  · have HZ := cls_some wr
                                    refine wp_region_below (by kernel_rfl) (by kernel_rfl) ?_
                                    repeat (go_big_quiet_step (fail))
                                    go_big_quiet_step (first | (go_at_call 15; exact calls_below (rballot_any qb Q.b _ (hE2.c1 _ (Cls.prop _)) (hE2.c2 _ (Cls.prop _)) (hE2.c3 _ (Cls.prop _)))))
                                    repeat (go_big_quiet_step (fail))
                                    go_big_quiet_step (first | (go_at_call 15; exact calls_below (rballot_any rb R.b _ (hER.c1 _ (Cls.prop _)) (hER.c2 _ (Cls.prop _)) (hER.c3 _ (Cls.prop _)))))
                                    repeat (go_big_quiet_step (fail))
                                    go_big_quiet_step (first | (go_at_call 14; exact calls_below (rbless_v hl1)))
                                    repeat (go_big_quiet_step (fail))
                                    go_big_quiet_step (first | (go_at_call 15; exact calls_below (rballot_any qb Q.b _ (hE2.c1 _ (Cls.prop _)) (hE2.c2 _ (Cls.prop _)) (hE2.c3 _ (Cls.prop _)))))
                                    repeat (go_big_quiet_step (fail))
                                    go_big_quiet_step (first | (go_at_call 15; exact calls_below (rballot_any db D.b _ (hE3.c1 _ (Cls.prop _)) (hE3.c2 _ (Cls.prop _)) (hE3.c3 _ (Cls.prop _)))))
                                    repeat (go_big_quiet_step (fail))
                                    go_big_quiet_step (first | (go_at_call 14; exact calls_below (rbless_v hl2)))
                                    repeat (go_big_quiet_step (fail))
                                    go_big_quiet_step (first | (go_at_call 12; exact calls_same (rstage_any qb (Q.st : Int) _ (hE2.c7 _ (Cls.prop _)))))
                                    repeat (go_big_quiet_step (fail))
                                    refine wpQuiet_nil ?_
                                    rintro _ ⟨y, rfl⟩
                                    obtain ⟨V4, b4⟩ := y
                                    dsimp only
                                    clear HZ
                                    go_wp2_with fail
                                    go_meet
                                    case rel => exact ⟨rfl, b4⟩
                                  · have HZ := cls_some wr
                                    refine wp_region_below (by kernel_rfl) (by kernel_rfl) ?_
                                    repeat (go_big_quiet_step (fail))
                                    go_big_quiet_step (first | (go_at_call 15; exact calls_below (rballot_any qb Q.b _ (hE2.c1 _ (Cls.prop _)) (hE2.c2 _ (Cls.prop _)) (hE2.c3 _ (Cls.prop _)))))
                                    repeat (go_big_quiet_step (fail))
                                    go_big_quiet_step (first | (go_at_call 15; exact calls_below (rballot_any rb R.b _ (hER.c1 _ (Cls.prop _)) (hER.c2 _ (Cls.prop _)) (hER.c3 _ (Cls.prop _)))))
                                    repeat (go_big_quiet_step (fail))
                                    go_big_quiet_step (first | (go_at_call 14; exact calls_below (rbless_v hl1)))
                                    repeat (go_big_quiet_step (fail))
                                    go_big_quiet_step (first | (go_at_call 15; exact calls_below (rballot_any qb Q.b _ (hE2.c1 _ (Cls.prop _)) (hE2.c2 _ (Cls.prop _)) (hE2.c3 _ (Cls.prop _)))))
                                    repeat (go_big_quiet_step (fail))
                                    go_big_quiet_step (first | (go_at_call 15; exact calls_below (rballot_any db D.b _ (hE3.c1 _ (Cls.prop _)) (hE3.c2 _ (Cls.prop _)) (hE3.c3 _ (Cls.prop _)))))
                                    repeat (go_big_quiet_step (fail))
                                    go_big_quiet_step (first | (go_at_call 14; exact calls_below (rbless_v hl2)))
                                    repeat (go_big_quiet_step (fail))
                                    refine wpQuiet_nil ?_
                                    rintro _ ⟨y, rfl⟩
                                    obtain ⟨V4, b4⟩ := y
                                    dsimp only
                                    clear HZ
                                    go_wp2_with fail
                                    go_meet
                                    case rel => exact ⟨rfl, b4⟩
                              · have z1 : ((Q.st : Int) != 1) = true := by simp only [bne_iff_ne, ne_eq]; omega
                                rcases hLow' with ⟨hlow, -⟩ | ⟨d, D, hlow, hD, -⟩
                                · have hf : use = true := by rw [← huse, hl1, hlow]; simp [s1]
                                  clear huse s1
                                  subst hf
                                  subst hlow
                                  have HZ := cls_some wr
                                  refine wp_region_below (by kernel_rfl) (by kernel_rfl) ?_
                                  repeat (go_big_quiet_step (fail))
                                  go_big_quiet_step (first | (go_at_call 15; exact calls_below (rballot_any qb Q.b _ (hE2.c1 _ (Cls.prop _)) (hE2.c2 _ (Cls.prop _)) (hE2.c3 _ (Cls.prop _)))))
                                  repeat (go_big_quiet_step (fail))
                                  go_big_quiet_step (first | (go_at_call 15; exact calls_below (rballot_any rb R.b _ (hER.c1 _ (Cls.prop _)) (hER.c2 _ (Cls.prop _)) (hER.c3 _ (Cls.prop _)))))
                                  repeat (go_big_quiet_step (fail))
                                  go_big_quiet_step (first | (go_at_call 14; exact calls_below (rbless_v hl1)))
                                  repeat (go_big_quiet_step (fail))
                                  go_big_quiet_step (first | (go_at_call 12; exact calls_same (rstage_any qb (Q.st : Int) _ (hE2.c7 _ (Cls.prop _)))))
                                  repeat (go_big_quiet_step (fail))
                                  refine wpQuiet_nil ?_
                                  rintro _ ⟨y, rfl⟩
                                  obtain ⟨V4, b4⟩ := y
                                  dsimp only
                                  clear HZ
                                  go_wp2_with fail
                                  go_meet
                                  case rel => exact ⟨rfl, b4⟩
                                · have hdl : d < L := by rw [← hL]; exact (List.getElem?_eq_some_iff.1 hD).1
                                  have hdi : ¬ ((d : Int) < 0) := by omega
                                  have hdL : (d : Int) < (L : Int) := by omega
                                  have hf : use = !lt3 Q.b D.b := by rw [← huse, hl1, hlow, Int.toNat_natCast, hD]; simp [s1]; try omega
                                  clear huse s1
                                  subst hlow
                                  obtain ⟨gd3, cd3, db, e3, -, -, hcell3, hE3'⟩ := hN.rdx hD
                                  have hE3 := hE3'.keep hb
                                  rw [hL] at e3
                                  obtain ⟨g3, g3'⟩ := rdx_same ed e3
                                  subst g3
                                  clear g3' e3
                                  have k1 : ∀ y : Cls wr, y.val.cell? ⟨W2.heap.size + 1, 1, none⟩ = some (.slice (some ⟨gd3, 0, none⟩) L cd) := fun y => he1 _ y.prop
                                  have k2 : ∀ y : Cls wr, y.val.cell? ⟨gd3, d, none⟩ = some (rptr db) := fun y => hcell3 _ (ab_trans hb y.prop)
                                  cases hl2 : lt3 Q.b D.b
                                  · rw [hl2] at hf
                                    subst hf
                                    have HZ := cls_some wr
                                    refine wp_region_below (by kernel_rfl) (by kernel_rfl) ?_
                                    repeat (go_big_quiet_step (fail))
                                    go_big_quiet_step (first | (go_at_call 15; exact calls_below (rballot_any qb Q.b _ (hE2.c1 _ (Cls.prop _)) (hE2.c2 _ (Cls.prop _)) (hE2.c3 _ (Cls.prop _)))))
                                    repeat (go_big_quiet_step (fail))
                                    go_big_quiet_step (first | (go_at_call 15; exact calls_below (rballot_any rb R.b _ (hER.c1 _ (Cls.prop _)) (hER.c2 _ (Cls.prop _)) (hER.c3 _ (Cls.prop _)))))
                                    repeat (go_big_quiet_step (fail))
                                    go_big_quiet_step (first | (go_at_call 14; exact calls_below (rbless_v hl1)))
                                    repeat (go_big_quiet_step (fail))
                                    go_big_quiet_step (first | (go_at_call 15; exact calls_below (rballot_any qb Q.b _ (hE2.c1 _ (Cls.prop _)) (hE2.c2 _ (Cls.prop _)) (hE2.c3 _ (Cls.prop _)))))
                                    repeat (go_big_quiet_step (fail))
                                    go_big_quiet_step (first | (go_at_call 15; exact calls_below (rballot_any db D.b _ (hE3.c1 _ (Cls.prop _)) (hE3.c2 _ (Cls.prop _)) (hE3.c3 _ (Cls.prop _)))))
                                    repeat (go_big_quiet_step (fail))
                                    go_big_quiet_step (first | (go_at_call 14; exact calls_below (rbless_v hl2)))
                                    repeat (go_big_quiet_step (fail))
                                    go_big_quiet_step (first | (go_at_call 12; exact calls_same (rstage_any qb (Q.st : Int) _ (hE2.c7 _ (Cls.prop _)))))
                                    repeat (go_big_quiet_step (fail))
                                    refine wpQuiet_nil ?_
                                    rintro _ ⟨y, rfl⟩
                                    obtain ⟨V4, b4⟩ := y
                                    dsimp only
                                    clear HZ
                                    go_wp2_with fail
                                    go_meet
                                    case rel => exact ⟨rfl, b4⟩
                                  · rw [hl2] at hf
                                    subst hf
                                    have HZ := cls_some wr
                                    refine wp_region_below (by kernel_rfl) (by kernel_rfl) ?_
                                    repeat (go_big_quiet_step (fail))
                                    go_big_quiet_step (first | (go_at_call 15; exact calls_below (rballot_any qb Q.b _ (hE2.c1 _ (Cls.prop _)) (hE2.c2 _ (Cls.prop _)) (hE2.c3 _ (Cls.prop _)))))
                                    repeat (go_big_quiet_step (fail))
                                    go_big_quiet_step (first | (go_at_call 15; exact calls_below (rballot_any rb R.b _ (hER.c1 _ (Cls.prop _)) (hER.c2 _ (Cls.prop _)) (hER.c3 _ (Cls.prop _)))))
                                    repeat (go_big_quiet_step (fail))
                                    go_big_quiet_step (first | (go_at_call 14; exact calls_below (rbless_v hl1)))
                                    repeat (go_big_quiet_step (fail))
                                    go_big_quiet_step (first | (go_at_call 15; exact calls_below (rballot_any qb Q.b _ (hE2.c1 _ (Cls.prop _)) (hE2.c2 _ (Cls.prop _)) (hE2.c3 _ (Cls.prop _)))))
                                    repeat (go_big_quiet_step (fail))
                                    go_big_quiet_step (first | (go_at_call 15; exact calls_below (rballot_any db D.b _ (hE3.c1 _ (Cls.prop _)) (hE3.c2 _ (Cls.prop _)) (hE3.c3 _ (Cls.prop _)))))
                                    repeat (go_big_quiet_step (fail))
                                    go_big_quiet_step (first | (go_at_call 14; exact calls_below (rbless_v hl2)))
                                    repeat (go_big_quiet_step (fail))
                                    refine wpQuiet_nil ?_
                                    rintro _ ⟨y, rfl⟩
                                    obtain ⟨V4, b4⟩ := y
                                    dsimp only
                                    clear HZ
                                    go_wp2_with fail
                                    go_meet
                                    case rel => exact ⟨rfl, b4⟩
                        case rest =>
                          obtain ⟨rfl, hbc⟩ := hcut
                          have hbw2 : Below V.heap.size V wc := ab_trans hb hbc
                          clear huse
                          cases use
                          · have hno : FndI S R low (k + 1) f := fnd_no HFnd.out hQ (fun h1 h2 => by
                              have := HU.out
                              rw [h1] at this
                              simp only [Bool.true_and, Bool.and_eq_false_iff, Bool.or_eq_false_iff, decide_eq_false_iff_not] at this
                              rcases this with h | h
                              · rcases h2 with e | ⟨d, D, e, hD, hl⟩
                                · exact absurd (by omega : low < 0) h.1
                                · have h9 := h.2
                                  rw [e, Int.toNat_natCast, hD] at h9
                                  simp only [hl] at h9
                                  cases h9
                              · omega)
                            have HNo : Hid (FndI S R low (k + 1) f) := hno
                            clear hno
                            go_wp2_with fail
                            exact ⟨⟨k + 1, f, by omega, rfl, rfl, HNo.out, hbw2⟩, by simp only [intOf]; omega⟩
                          · have HY : Hid (FndI S R low (k + 1) (f || aft Q.v R.c R.v)) := fnd_yes HFnd.out hQ
                            clear hb he1 hER hE2 hN2
                            have hb := hbw2
                            have hER := hE0.keep hb
                            have hE2 := hE2'.keep hb
                            clear hbw2 hbc
                            as_aux_lemma =>
                              generalize wc = wr at *
                              go_upto_region 24 with fail
                              cases f
                              · have HY' : Hid (FndI S R low (k + 1) (aft Q.v R.c R.v)) := by have := HY.out; rw [Bool.false_or] at this; exact this
                                clear HY
                                obtain ⟨gc, cc, vo, vn, ec, hcc, hcm2, hch'⟩ := hN.chx hR
                                rw [hL] at ec hcc
                                have hgk := (hI.rok j R hR).ok
                                have hch : ∀ U, Below wr.heap.size wr U → U.cell? ⟨gc, j * 3, none⟩ = some (.int .i64 R.c.k) ∧ U.cell? ⟨gc, j * 3 + 1, none⟩ = some vo ∧ U.cell? ⟨gc, j * 3 + 2, none⟩ = some vn ∧ Is U vo R.c.o ∧ Is U vn R.c.n := fun U hU => hch' U (ab_trans hb hU)
                                have he2 : ∀ U, Below wr.heap.size wr U → U.cell? ⟨W2.heap.size + 1, 2, none⟩ = some (.slice (some ⟨gc, 0, none⟩) L cc) := fun U hU => by rw [hN.cells.2.2.1 U (ab_trans hb hU), ec]
                                obtain ⟨q1, c1, e1⟩ := (hch wr (Below.refl _ _)).2.2.2.1.form
                                obtain ⟨q2, c2, e2⟩ := (hch wr (Below.refl _ _)).2.2.2.2.form
                                obtain ⟨n1, hn1⟩ : ∃ n, R.c.o.length = n := ⟨_, rfl⟩
                                obtain ⟨n2, hn2⟩ : ∃ n, R.c.n.length = n := ⟨_, rfl⟩
                                rw [hn1] at e1
                                rw [hn2] at e2
                                subst e1
                                subst e2
                                obtain ⟨vv, hv10, -⟩ := hER.c10
                                have HRc : Hid (R.c.o.length ≤ 1000 ∧ R.c.n.length ≤ 1000) := rdok_c hgk
                                clear hch' ec
                                obtain ⟨vq, hq10, -⟩ := hE2.c10
                                refine region_L 13 (S := fun w' => Below wr.heap.size wr w') (by kernel_rfl) ((Below.refl _ _).drew) (fun hHeld => ?_)
                                have hdr : Below wr.heap.size wr wr.drew := hHeld
                                generalize wr.drew = V0 at *
                                refine takeP (i := 0) (some 145) (by rfl) rfl rfl (by kernel_rfl) (by kernel_rfl) (by kernel_rfl) (fun _ _ _ h => h) (by rfl) (fun w => by go_simp; try rfl) hHeld ?_
                                go_frame
                                refine takeP (i := 1) (some 146) (by rfl) rfl rfl (by kernel_rfl) (by kernel_rfl) (by kernel_rfl) (fun _ _ _ h => h) (by rfl) (fun w => by go_simp; try rfl) hHeld ?_
                                go_frame
                                refine takeP (i := 2) (some 147) (by rfl) rfl rfl (by kernel_rfl) (by kernel_rfl) (by kernel_rfl) (fun _ _ _ h => h) (by rfl) (fun w => by go_simp; try rfl) hHeld ?_
                                go_frame
                                refine takeP (i := 4) (some 149) (by rfl) rfl rfl (by kernel_rfl) (by kernel_rfl) (by kernel_rfl) (fun _ _ _ h => h) (by rfl) (fun w => by go_simp; try rfl) hHeld ?_
                                go_frame
                                refine takeP (i := 5) (some 150) (by rfl) rfl rfl (by kernel_rfl) (by kernel_rfl) (by kernel_rfl) (fun _ _ _ h => h) (by rfl) (fun w => by go_simp; try rfl) hHeld ?_
                                go_frame
                                refine takeP (i := 6) (some 151) (by rfl) rfl rfl (by kernel_rfl) (by kernel_rfl) (by kernel_rfl) (fun _ _ _ h => h) (by rfl) (fun w => by go_simp; try rfl) hHeld ?_
                                go_frame
                                refine takeP (i := 8) (some 153) (by rfl) rfl rfl (by kernel_rfl) (by kernel_rfl) (by kernel_rfl) (fun _ _ _ h => h) (by rfl) (fun w => by go_simp; try rfl) hHeld ?_
                                go_frame
                                refine takeP (i := 11) (some 156) (by rfl) rfl rfl (by kernel_rfl) (by kernel_rfl) (by kernel_rfl) (fun _ _ _ h => h) (by rfl) (fun w => by go_simp; try rfl) hHeld ?_
                                go_frame
                                refine takeL (i := 7) [9, 10, 13] (some 152) (by rfl) rfl rfl (by kernel_rfl) (by kernel_rfl) (by kernel_rfl) (by kernel_rfl) (fun _ _ _ h => h) (by rfl) (fun w hSw => by (try dsimp only at hSw); (have hcx := he2 _ hSw; go_simp; try rfl)) hHeld ?_
                                go_frame
                                refine takeP (i := 9) (some 154) (by rfl) rfl rfl (by kernel_rfl) (by kernel_rfl) (by kernel_rfl) (fun _ _ _ h => h) (by rfl) (fun w => by go_simp; try rfl) hHeld ?_
                                go_frame
                                refine takeL (i := 10) [13] (some 155) (by rfl) rfl rfl (by kernel_rfl) (by kernel_rfl) (by kernel_rfl) (by kernel_rfl) (fun _ _ _ h => h) (by rfl) (fun w hSw => by (try dsimp only at hSw); (have hcx := hch _ hSw; have t0 := hcx.1; have t1 := hcx.2.1; have t2 := hcx.2.2.1; clear hcx; go_simp; try rfl)) hHeld ?_
                                go_frame
                                refine anyL_ready (rs := [3]) (by kernel_rfl) (by simp) (AllL.cons rfl (fun K hK => ?_) AllL.nil)
                                go_simp
                                refine (rvalue_any qb vq Q.v V0 (hq10 _ hdr).1 (hq10 _ hdr).2 (by omega)).mono ?_
                                rintro e W3 ⟨v3, rfl, hO3, b'⟩
                                show K _ _
                                obtain ⟨q3, c3, e3⟩ := hO3.is.form
                                obtain ⟨n3, hn3⟩ : ∃ n, Q.v.length = n := ⟨_, rfl⟩
                                rw [hn3] at e3
                                subst e3
                                have hb3 := ab_trans hdr b'
                                refine hK.out _ _ hb3 (fun hHeld => ?_)
                                clear hK K
                                try go_frame
                                refine anyL_ready (rs := [12]) (by kernel_rfl) (by simp) (AllL.cons rfl (fun K hK => ?_) AllL.nil)
                                go_simp
                                refine (rvalue_any rb vv R.v W3 (hv10 _ hb3).1 (hv10 _ hb3).2 (by omega)).mono ?_
                                rintro e W5 ⟨v5, rfl, hO5, b'⟩
                                show K _ _
                                obtain ⟨q5, c5, e3⟩ := hO5.is.form
                                obtain ⟨n5, hn5⟩ : ∃ n, R.v.length = n := ⟨_, rfl⟩
                                rw [hn5] at e3
                                subst e3
                                have hb5 := ab_trans hb3 b'
                                have hO3' := hO3.is.keep b'
                                refine hK.out _ _ hb5 (fun hHeld => ?_)
                                clear hK K
                                try go_frame
                                refine anyL_ready (rs := [13]) (by kernel_rfl) (by simp) (AllL.last rfl (by kernel_rfl) (fun K hK => ?_))
                                go_simp
                                refine (aft_any (.slice q3 n3 c3) (.slice q1 n1 c1) (.slice q2 n2 c2) (.slice q5 n5 c5) Q.v R.v R.c W5 hO3' (hch W5 hb5).2.2.2.1 (hch W5 hb5).2.2.2.2 hO5.is (by omega) HRc.out.1 HRc.out.2 (by omega)).mono ?_
                                rintro e W4 ⟨rfl, b4⟩
                                show K _ _
                                have hb4 := ab_trans hb5 b4
                                refine hK.out _ _ ?_
                                clear hK K
                                try go_frame
                                refine anyL_ready (rs := [14]) (by kernel_rfl) (by simp) (AllL.free rfl (by kernel_rfl) (fun K hK => ?_))
                                go_simp
                                refine hK.out _ _ ?_
                                clear hK K
                                try go_frame
                                refine anyL_ready (rs := [15]) (by kernel_rfl) (by simp) (AllL.free rfl (by kernel_rfl) (fun K hK => ?_))
                                go_simp
                                refine hK.out _ _ ?_
                                clear hK K
                                refine anyL_done (by kernel_rfl) ?_
                                go_wp2_with fail
                                exact ⟨⟨k + 1, aft Q.v R.c R.v, by omega, rfl, rfl, HY'.out, ab_trans hb hb4⟩, by simp only [intOf]; omega⟩
                              · have HY' : Hid (FndI S R low (k + 1) true) := by have := HY.out; rw [Bool.true_or] at this; exact this
                                clear HY
                                have HZ := cls_some wr
                                refine wp_region_below (by kernel_rfl) (by kernel_rfl) ?_
                                repeat (go_big_quiet_step (fail))
                                refine wpQuiet_nil ?_
                                rintro _ ⟨y, rfl⟩
                                obtain ⟨V4, b4⟩ := y
                                dsimp only
                                clear HZ
                                go_wp2_with fail
                                exact ⟨⟨k + 1, true, by omega, rfl, rfl, HY'.out, ab_trans hb b4⟩, by simp only [intOf]; omega⟩
              · have hkn : k < L := by omega
                have hki : (k : Int) < (L : Int) := by omega
                clear ck
                obtain ⟨Q, hQ⟩ : ∃ R, S.rd[k]? = some R := ⟨S.rd[k]'(by omega), List.getElem?_eq_getElem _⟩
                obtain ⟨gd2, cd2, qb, e2, -, -, hcell2, hE2'⟩ := hN.rdx hQ
                have hE2 := hE2'.keep hb
                rw [hL] at e2
                obtain ⟨g1, g1'⟩ := rdx_same ed e2
                subst g1
                clear g1' e2
                have hc2 := hcell2 wr hb
                go_upto_region 16 with fail
                clear hc2
                obtain ⟨take, htake⟩ : ∃ b, (decide (Q.st = 3) && (lt3 Q.b R.b && (decide (low < 0) || (match S.rd[low.toNat]? with | some D => lt3 D.b Q.b | none => false)))) = b := ⟨_, rfl⟩
                have HT : Hid ((decide (Q.st = 3) && (lt3 Q.b R.b && (decide (low < 0) || (match S.rd[low.toNat]? with | some D => lt3 D.b Q.b | none => false)))) = take) := htake
                go_cut [91] from 65 to 90 (fun s wc => s = .bool take ∧ Below wr.heap.size wr wc)
                case first =>
                  have hLow' : LowI S R k low := HLow.out
                  unfold LowI at hLow'
                  have hv0 := Below.refl wr.heap.size wr
                  by_cases s3 : Q.st = 3
                  · have z3 : ((Q.st : Int) == 3) = true := by rw [s3]; rfl
                    cases hl1 : lt3 Q.b R.b
                    · have hf : take = false := by rw [← htake]; simp [s3, hl1]
                      clear htake s3
                      subst hf
                      go_wp2_with fail
                      refine (rstage_any qb (Q.st : Int) _ (hE2.c7 _ hv0)).mono ?_
                      rintro e _ ⟨rfl, rfl⟩
                      go_wp2_with fail
                      refine (rballot_any qb Q.b _ (hE2.c1 _ hv0) (hE2.c2 _ hv0) (hE2.c3 _ hv0)).mono ?_
                      rintro e X7 ⟨rfl, b'⟩
                      have hv8 := ab_trans hv0 b'
                      clear b'
                      go_wp2_with fail
                      refine (rballot_any rb R.b _ (hER.c1 _ hv8) (hER.c2 _ hv8) (hER.c3 _ hv8)).mono ?_
                      rintro e X9 ⟨rfl, b'⟩
                      have hv10 := ab_trans hv8 b'
                      clear b'
                      go_wp2_with fail
                      refine (rbless_any Q.b R.b _).mono ?_
                      rintro e X11 ⟨rfl, b'⟩
                      have hv12 := ab_trans hv10 b'
                      clear b'
                      rw [hl1]
                      go_wp2_with fail
                      go_meet
                      case rel => exact ⟨rfl, hv12⟩
                    · rcases hLow' with ⟨hlow, -⟩ | ⟨d, D, hlow, hD, -⟩
                      · have hf : take = true := by rw [← htake]; simp [s3, hl1, hlow]
                        clear htake s3
                        subst hf
                        subst hlow
                        go_wp2_with fail
                        refine (rstage_any qb (Q.st : Int) _ (hE2.c7 _ hv0)).mono ?_
                        rintro e _ ⟨rfl, rfl⟩
                        go_wp2_with fail
                        refine (rballot_any qb Q.b _ (hE2.c1 _ hv0) (hE2.c2 _ hv0) (hE2.c3 _ hv0)).mono ?_
                        rintro e X14 ⟨rfl, b'⟩
                        have hv15 := ab_trans hv0 b'
                        clear b'
                        go_wp2_with fail
                        refine (rballot_any rb R.b _ (hER.c1 _ hv15) (hER.c2 _ hv15) (hER.c3 _ hv15)).mono ?_
                        rintro e X16 ⟨rfl, b'⟩
                        have hv17 := ab_trans hv15 b'
                        clear b'
                        go_wp2_with fail
                        refine (rbless_any Q.b R.b _).mono ?_
                        rintro e X18 ⟨rfl, b'⟩
                        have hv19 := ab_trans hv17 b'
                        clear b'
                        rw [hl1]
                        go_wp2_with fail
                        go_meet
                        case rel => exact ⟨rfl, hv19⟩
                      · have hdl : d < L := by rw [← hL]; exact (List.getElem?_eq_some_iff.1 hD).1
                        have hdn : ¬ low < 0 := by omega
                        have hdi : ¬ ((d : Int) < 0) := by omega
                        have hdL : (d : Int) < (L : Int) := by omega
                        have hf : take = lt3 D.b Q.b := by rw [← htake, hlow]; simp [s3, hl1, hD]; try omega
                        clear htake s3 hdn
                        subst hf
                        subst hlow
                        obtain ⟨gd3, cd3, db, e3, -, -, hcell3, hE3'⟩ := hN.rdx hD
                        have hE3 := hE3'.keep hb
                        rw [hL] at e3
                        obtain ⟨g3, g3'⟩ := rdx_same ed e3
                        subst g3
                        clear g3'
                        go_wp2_with fail
                        refine (rstage_any qb (Q.st : Int) _ (hE2.c7 _ hv0)).mono ?_
                        rintro e _ ⟨rfl, rfl⟩
                        go_wp2_with fail
                        refine (rballot_any qb Q.b _ (hE2.c1 _ hv0) (hE2.c2 _ hv0) (hE2.c3 _ hv0)).mono ?_
                        rintro e X21 ⟨rfl, b'⟩
                        have hv22 := ab_trans hv0 b'
                        clear b'
                        go_wp2_with fail
                        refine (rballot_any rb R.b _ (hER.c1 _ hv22) (hER.c2 _ hv22) (hER.c3 _ hv22)).mono ?_
                        rintro e X23 ⟨rfl, b'⟩
                        have hv24 := ab_trans hv22 b'
                        clear b'
                        go_wp2_with fail
                        refine (rbless_any Q.b R.b _).mono ?_
                        rintro e X25 ⟨rfl, b'⟩
                        have hv26 := ab_trans hv24 b'
                        clear b'
                        rw [hl1]
                        have m1 := he1 _ hv26
                        have m2 := hcell3 _ (ab_trans hb hv26)
                        go_wp2_with fail
                        refine (rballot_any db D.b _ (hE3.c1 _ hv26) (hE3.c2 _ hv26) (hE3.c3 _ hv26)).mono ?_
                        rintro e X27 ⟨rfl, b'⟩
                        have hv28 := ab_trans hv26 b'
                        clear b'
                        clear m1 m2
                        go_wp2_with fail
                        refine (rballot_any qb Q.b _ (hE2.c1 _ hv28) (hE2.c2 _ hv28) (hE2.c3 _ hv28)).mono ?_
                        rintro e X29 ⟨rfl, b'⟩
                        have hv30 := ab_trans hv28 b'
                        clear b'
                        go_wp2_with fail
                        refine (rbless_any D.b Q.b _).mono ?_
                        rintro e X31 ⟨rfl, b'⟩
                        have hv32 := ab_trans hv30 b'
                        clear b'
                        go_wp2_with fail
                        go_meet
                        case rel => exact ⟨rfl, hv32⟩
                  · have z3 : ((Q.st : Int) == 3) = false := by rw [beq_eq_false_iff_ne]; omega
                    have hf : take = false := by rw [← htake]; simp [s3]
                    clear htake s3
                    subst hf
                    go_wp2_with fail
                    refine (rstage_any qb (Q.st : Int) _ (hE2.c7 _ hv0)).mono ?_
                    rintro e _ ⟨rfl, rfl⟩
                    go_wp2_with fail
                    go_meet
                    case rel => exact ⟨rfl, hv0⟩
                case rest =>
                  obtain ⟨rfl, hbc⟩ := hcut
                  have hbw2 : Below V.heap.size V wc := ab_trans hb hbc
                  clear htake
                  cases take
                  · have hno : LowI S R (k + 1) low := low_no HLow.out hQ (fun h3 hl => by
                      have := HT.out
                      rw [decide_eq_true h3, hl] at this
                      simp only [Bool.true_and, Bool.or_eq_false_iff, decide_eq_false_iff_not] at this
                      refine ⟨by omega, fun d D e hD => ?_⟩
                      have h9 := this.2
                      rw [e, Int.toNat_natCast, hD] at h9
                      exact h9)
                    have HNo : Hid (LowI S R (k + 1) low) := hno
                    clear hno
                    go_wp2_with fail
                    exact ⟨⟨k + 1, low, by omega, rfl, rfl, HNo.out, hbw2⟩, by simp only [intOf]; omega⟩
                  · have hyes : LowI S R (k + 1) (k : Int) := by
                      have := HT.out
                      simp only [Bool.and_eq_true, decide_eq_true_eq, Bool.or_eq_true] at this
                      obtain ⟨h3, hl, h⟩ := this
                      refine low_yes HLow.out hQ h3 hl (fun d D e hD => ?_)
                      rcases h with h | h
                      · omega
                      · rw [e, Int.toNat_natCast, hD] at h
                        exact h
                    have HY : Hid (LowI S R (k + 1) (k : Int)) := hyes
                    clear hyes
                    go_wp2_with fail
                    exact ⟨⟨k + 1, (k : Int), by omega, rfl, rfl, HY.out, hbw2⟩, by simp only [intOf]; omega⟩
          · go_wp2_with fail
            exact ⟨⟨j + 1, by omega, rfl, hbw⟩, by simp only [intOf]; omega⟩
theorem own : ownKnob Try.prog.godebug = none := by kernel_rfl
theorem laidOut : laidOutB Try.prog = true := by kernel_rfl

set_option maxRecDepth 100000 in
theorem lifted (os : Os) (started : os.Started) (H : Type) (enc : TypeId × Value → H) :
    ReturnsInHanded {} Try.checked os 4 .any (Rows.roundChainsSpec.pre6 enc Try.prog Try.f4 Rows.roundChainsRow.domain false) (Rows.roundChainsSpec.post enc Try.prog Try.f4 false true false false) := by
  refine returnsInHanded_of_change_sized (C := Try.checked) own started (by kernel_rfl) Try.func4
    (ChangeSpec.witness6 (enc := enc) (C := Try.checked) false ⟨#[], #[.int .i64 0, .slice none 0 0], []⟩ 8 (by kernel_rfl) (by kernel_rfl) (by kernel_rfl) (by kernel_rfl)) ?_
  intro W base args ds gs before hval0 hW hcnd hsz _
  have hval : ∀ (j : Nat) t v, Try.f4.params[j]? = some t → args[j]? = some v → Value.okWide Try.prog W .any base t v := hval0
  have hW' := hW
  obtain ⟨p, q, hA0, hV, rfl, hfz, hnd⟩ := hW
  have hA : DataW.TrodAll enc Try.prog W 0 (fun _ => true) true Try.f4.params.toList args.toList ds p := hA0
  rw [Try.params4] at hA hval
  obtain ⟨v0, vs0, d0, ds0, p0, q0, hargs, rfl, rfl, h0, r0⟩ := trodAll_cons hA
  obtain ⟨v1, vs1, d1, ds1, p1, q1, rfl, rfl, rfl, h1, r1⟩ := trodAll_cons r0
  obtain ⟨rfl, rfl, rfl⟩ := trodAll_nil r1
  obtain rfl : args = #[v0, v1] := by cases args; simp_all
  obtain ⟨rfl, rfl⟩ := trodVars_none hV
  have k0 := h0
  have lt0 : ∀ x ∈ p0, x.block < W.heap.size := by obtain ⟨m, hm⟩ := k0; exact DataW.trod_lt m _ _ _ hm
  have k1 := h1
  have lt1 : ∀ x ∈ p1, x.block < W.heap.size := by obtain ⟨m, hm⟩ := k1; exact DataW.trod_lt m _ _ _ hm
  obtain ⟨a0, rfl, rfl, rfl, w0⟩ := open_int Try.underlying3 (hval 0 3 v0 rfl rfl) h0
  obtain ⟨sq1_, sn1_, sk1_, sg1_, so1_, os1_, rfl, Z1_⟩ := open_acts (hval 1 32 v1 rfl rfl) h1 (fun n hn => by simpa using List.all_eq_true.1 hsz n (DataW.weights_mem_each (j := 1) (t := 32) (by kernel_rfl) rfl n hn))
  clear hA0 hval0
  refine (walk a0 (bounds_i64 w0) sq1_ sn1_ sk1_ sg1_ so1_ os1_ Z1_).mono fun e W' ⟨he, bel⟩ => ?_
  subst he
  exact ⟨_, rfl, _, _, _, [], _, [], hW', trodAll_mk1 (shut_bool Try.underlying4 _), (trodAll_cons_mk (Below.trod laidOut (by kernel_rfl) (of_decide_eq_true (by kernel_rfl)) k0 bel lt0) (trodAll_cons_mk (Below.trod laidOut (by kernel_rfl) (of_decide_eq_true (by kernel_rfl)) k1 bel lt1) trodAll_mk0)), rfl, bel.frame _, fun h => by cases h⟩

theorem over : Rows.roundChainsRow.holds Try.pinned (OpenSpec.ofChange Rows.roundChainsSpec) :=
  OpenClaim.holds_of_wide 4 Try.f4 rfl rfl rfl rfl rfl rfl rfl ⟨rfl, rfl, rfl, rfl, rfl⟩ rfl rfl rfl rfl rfl (by kernel_rfl) Try.func4 (by kernel_rfl)
    (of_decide_eq_true (by kernel_rfl)) (by unfold Func.isWrapper; first | (rw [if_pos (by decide +kernel)]; kernel_rfl) | (rw [if_neg (by decide +kernel)]; exact ⟨rfl, rfl⟩))
    (fun os started H enc _ => lifted os started H enc)

theorem proved : Rows.RoundChainsSaid := over
end Go.Proofs.Ytodmhohccclhmaa.roundChains
namespace Go.Proofs.Ytodmhohccclhmaa
theorem roundChains_holds : Rows.RoundChainsSaid := roundChains.proved
#print axioms roundChains_holds
end Go.Proofs.Ytodmhohccclhmaa
