/-
  A diary, under any calls, holds and answers what the chapter says: estuarylaw07.DiaryPlays returns true for every input; no condition.
-/
import Derived.Test.YtalbiggmmmkclaaPk16
import Derived.ProofKit
import Derived.OpenShut
import Derived.ChangeOld
import Derived.Below
import Derived.Lib.SmallJoins
namespace Go.Proofs.Ytalbiggmmmkclaa.diaryPlays
open Go.ChangeShapes Go.WideShapes Go.ChangeAt Go.RowKit Go.Joins
set_option linter.unusedVariables false

theorem rf0 {W : World} {r : Nat} (h : Blk W r #[.string ⟨#[]⟩, .string ⟨#[]⟩, .int .i64 0, .bool false, .bool false, .int .i64 0, .int .i64 0, .bool false] 29) : Rf W r ts0 :=
  ⟨false, 0, 0, h, (fun _ => rfl), (fun _ h => by cases h), (fun h => by cases h)⟩
theorem wf0 : Wf ts0 := ⟨by decide, by decide, by decide, by decide⟩
theorem op0 : opN ts0 = 0 ∧ opS ts0 = ts0 := op_up [] (fun r h => by cases h) 0 0
/-- What holds between two calls. -/
def Bx (W wc : World) (b r : Nat) (S : TS) (dv mv : Value) : Prop := ∃ v' S', Tp wc W.heap.size b v' S' ∧ Rf wc r S' ∧ Iv S' ∧ S'.steps ≤ S.steps + 4 ∧ Dp wc W.heap.size b r S' dv mv ∧ Below W.heap.size W wc
set_option maxRecDepth 100000 in
set_option maxHeartbeats 16000000 in
theorem walk {W : World} (q : Option Addr) (n cap g off : Nat) (os : List OpE) (SC : Sc7 W q n cap g off os) :
    Calls Try.prog 3 #[.slice q n cap] W fun e w' => e = .returned (.bool true) ∧ Below W.heap.size W w' := by
  obtain ⟨hlen, hc, hm, hp, hg, hat, hfew⟩ := SC
  have n00 := ne00
  go_enter Try.func3, Try.ntmps3
  go_upto_region 3 with (go_at_call 9; refine (alive7_any _).mono ?_; rintro e V1 ⟨rfl, hb1⟩)
  have SC1 : Sc7 V1 q n cap g off os := ⟨hlen, hc, hm, hp, (fun h => Nat.lt_of_lt_of_le (hg h) hb1.size), (fun j x hx => (hat j x hx).keep (hg (by have := (List.getElem?_eq_some_iff.1 hx).1; omega)) hb1), hfew⟩
  go_wp2_with fail
  refine (dlong_any q n cap g off os _ SC1).mono ?_
  rintro e V2 ⟨⟨rr, rfl, hrr⟩, hb2⟩
  have bw2 := ab_trans hb1 hb2
  clear SC1
  cases rr with
  | true =>
    go_wp2_with fail
    go_ret
    exact ⟨rfl, bw2⟩
  | false =>
    have hall := hrr rfl
    go_upto_region 6 with (go_at_call 11; refine (new_any _).mono ?_; rintro e V3 ⟨rfl, h3', b3⟩; have h3 := h3'.less bw2.size; have bw3 := ab_trans bw2 b3; clear h3')
    have hM := Blk.new V3 #[.string ⟨#[]⟩, .string ⟨#[]⟩, .int .i64 0, .bool false, .bool false, .int .i64 0, .int .i64 0, .bool false] 29
    have b4 : Below V3.heap.size V3 (V3.alloc (.cells #[.string ⟨#[]⟩, .string ⟨#[]⟩, .int .i64 0, .bool false, .bool false, .int .i64 0, .int .i64 0, .bool false] 29)) := (Below.refl _ _).alloc (Nat.le_refl _) _
    generalize V3.alloc (.cells #[.string ⟨#[]⟩, .string ⟨#[]⟩, .int .i64 0, .bool false, .bool false, .int .i64 0, .int .i64 0, .bool false] 29) = V4 at *
    have hR4 := rf0 hM
    have h4 := h3.keep b4
    have bw4 := ab_trans bw3 b4
    have hr : W.heap.size ≤ V3.heap.size := bw3.size
    generalize hrr : V3.heap.size = r at *
    generalize hbb : V2.heap.size = b at *
    clear hM h3 b4 hrr
    go_upto_region 8 with (first
      | (go_at_call 12; refine (dopen_up _ _ _ [] 0 0 _ h4 (by omega) Rok.nil).mono ?_; rintro e V5 ⟨dd, q5, c5, vs5, v5, rfl, hd5, hD5, -, h5, m5⟩; have hR5 := hR4.mv h4 m5; have bw5 := bw4.trans (h4.below m5))
      | (go_at_call 13; refine (mdopen_any r _ _ hR5 wf0 (by decide) Byt.nil).mono ?_; rintro e V6 ⟨-, hop, hR6, mq6⟩; obtain ⟨mm, vr, rfl, hmm, hM6, T6⟩ := hop op0.1))
    obtain ⟨ys, hrB⟩ := hR5.blk
    have h6 := h5.mq1 mq6 hrB
    have hD6 := mq6.blk hD5 hrB hrB (by decide) (by decide)
    have bw6 := bw5.trans (mq6.below hr hr bw5.size)
    rw [op0.2] at hR6
    have T6' : Txo V6 W.heap.size vr [] := (show Txo V6 V5.heap.size vr [] by have := T6; rwa [show spt ts0.l = [] from spt_nil] at this).less bw5.size
    have hDp6 : Dp V6 W.heap.size b r ts0 (tptr dd) (tptr mm) := .inr ⟨dd, mm, vr, [], rfl, rfl, Nat.le_trans bw4.size hd5, Nat.le_trans bw5.size hmm, hD6, hM6, T6', Rok.nil, Nat.zero_le _⟩
    have hIv6 : Iv ts0 := ⟨Byt.nil, fun _ => rfl⟩
    clear hR4 h4 m5 hR5 bw5 h5 hD5 hop mq6 hrB T6 T6' bw4 bw3 bw2 hM6 hD6
    go_wp2_with fail
    go_loopw [5, 8, 41] (fun dv mv x wr => ∃ (i : Nat) (v : Value) (S : TS), i ≤ n ∧ x = .int .i64 (i : Int) ∧ Tp wr W.heap.size b v S ∧ Rf wr r S ∧ Iv S ∧ S.steps ≤ 4 * i ∧ Dp wr W.heap.size b r S dv mv ∧ Below W.heap.size W wr) (fun _ _ x _ => n - (intOf x).toNat)
    case atStart => exact ⟨0, _, _, by omega, rfl, h6, hR6, hIv6, by simp, hDp6, bw6⟩
    case round =>
      clear h6 hR6 bw6 hDp6 hIv6
      obtain ⟨i, v, S, hi, rfl, h5, hR5, hIv, hs5, hDp, bw5⟩ := hrel
      by_cases hin : i = n
      · subst hin
        clear hat hp hg hall
        go_wp2_with fail
        go_ret
        exact ⟨rfl, bw5⟩
      · obtain ⟨x, hx⟩ : ∃ x, os[i]? = some x := ⟨os[i], List.getElem?_eq_getElem (by omega)⟩
        obtain rfl := hp (by omega)
        have hgl := hg (by omega)
        obtain ⟨d0, d1, d2, d3, sl, rows, hbk, hbn⟩ := hat i x hx
        replace d0 := (bw5.cell (p := ⟨g, off + i * 4, none⟩) hgl).trans d0
        replace d1 := (bw5.cell (p := ⟨g, off + i * 4 + 1, none⟩) hgl).trans d1
        replace d2 := (bw5.cell (p := ⟨g, off + i * 4 + 2, none⟩) hgl).trans d2
        replace d3 := (bw5.cell (p := ⟨g, off + i * 4 + 3, none⟩) hgl).trans d3
        have hl5 : x.l.length ≤ 20000 := hall x (List.mem_of_getElem? hx)
        have hii : (i : Int) < (n : Int) := by omega
        have hin' : i < n := by omega
        obtain ⟨kd, nn, vb, l, vrw, vs, ls⟩ := x
        dsimp only at d0 d1 d2 d3 sl rows hbk hbn hl5
        obtain ⟨qx, nx, capx, ex⟩ := sl.1.slice
        subst ex
        obtain ⟨qr, nr, capr, er⟩ : ∃ q n c, vrw = .slice q n c := by
          obtain ⟨q', c', g', o', e', -⟩ := rows.1.open
          exact ⟨_, _, _, e'⟩
        subst er
        clear hat hp hg hall hx hrr
        go_upto_region 13 with fail
        have hO := Blk.new wr #[.int .i64 kd, .slice qx nx capx, .slice qr nr capr, .int .i64 nn] 41
        have b6 : Below wr.heap.size wr (wr.alloc (.cells #[.int .i64 kd, .slice qx nx capx, .slice qr nr capr, .int .i64 nn] 41)) := (Below.refl _ _).alloc (Nat.le_refl _) _
        generalize wr.alloc (.cells #[.int .i64 kd, .slice qx nx capx, .slice qr nr capr, .int .i64 nn] 41) = X at *
        have h6 := h5.keep b6
        have hR6 := hR5.keep b6
        have hDp6 := hDp.keep b6
        have bw6 := ab_trans bw5 b6
        have hob : W.heap.size ≤ wr.heap.size := bw5.size
        generalize hobb : wr.heap.size = ob at *
        clear h5 hR5 hDp b6 bw5 d0 d1 d2 d3 hobb
        have o1 := hO.at (i := 1) rfl
        go_upto_region 14 with (go_at_call 14; refine (copy_any _ l _ (sl.1.keep bw6) (by omega)).mono ?_; rintro e X2 ⟨vc, rfl, hC2, b2⟩)
        have h2 := h6.keep b2
        have hR2 := hR6.keep b2
        have hDp2 := hDp6.keep b2
        have bw2 := ab_trans bw6 b2
        have hO2 := hO.keep b2
        have hvc : ∀ k, v.ownBlock = some k → k < X.heap.size := fun k hk => (h6.own.lt k hk).2
        have hWX : W.heap.size ≤ X.heap.size := bw6.size
        clear h6 hR6 hDp6 bw6 hO o1
        have p0 := hO2.at (i := 0) rfl
        go_upto_block 2 with fail
        go_cut [5, 7, 8, 13, 14] from 50 to 186 (fun dv ev mv lv fv wc => Bx W wc b r S dv mv)
        case first =>
          by_cases hk0 : kd = 0
          · subst hk0
            rcases hDp2 with ⟨rfl, rfl⟩ | ⟨dd, mm, vr, rs, rfl, rfl, ha1, ha2, hD, hM, hTx, hrs, hsp⟩
            · go_wp2_with fail
              exact ⟨⟨i + 1, v, S, by omega, rfl, h2, hR2, hIv, by omega, .inl ⟨rfl, rfl⟩, bw2⟩, by simp only [intOf]; omega⟩
            · as_aux_lemma =>
                have hOK : Hid (∀ (X' : World) (v' : Value), Mw b dd X2 X' v v' → Blk X' ob #[.int .i64 0, .slice qx nx capx, .slice qr nr capr, .int .i64 nn] 41) := fun X' v' m => hO2.mwT h2 hD m (by decide) (by decide) (by decide)
                obtain ⟨gc, capc, ec, hcown⟩ := id hC2
                subst ec
                have hgc := hcown.lt gc rfl
                have hwf := h2.wf
                have hrl : rs.length ≤ 200000 := by have := spN_len rs; have := hwf.sure; have := hwf.max; omega
                have hspl : spN rs ≤ 1048576 := by have := hwf.sure; have := hwf.max; omega
                have hlb : Byt l := sl.2.1
                have hcs : ∀ k, v.ownBlock = some k → k ≠ gc := fun k hk => by have := hvc k hk; omega
                go_upto_region 30 with fail
                refine wp_region_held_drew (S := fun w' => Blk w' ob #[.int .i64 0, .slice qx nx capx, .slice qr nr capr, .int .i64 nn] 41 ∧ Below W.heap.size W w') (by kernel_rfl) ⟨hO2.drew, bw2.drew⟩ (fun hHeld => ?_)
                have bd : Below X2.heap.size X2 X2.drew := (Below.refl _ _).drew
                have h3 := h2.keep bd
                have hR3 := hR2.keep bd
                have hD3 := hD.keep bd
                have hM3 := hM.keep bd
                have hT3 := hTx.keep bd
                have hcown3 := own_keep hcown bd
                have hC3 := hC2.keep bd
                clear bd h2 hR2 hD hM hTx hcown hC2 hO2 p0 bw2 hOK
                generalize X2.drew = V at *
                refine takeH (i := 0) (some 111) rfl rfl (by kernel_rfl) (by kernel_rfl) (by kernel_rfl) (fun _ _ _ h => h) (by rfl) (fun w hSw => by (try dsimp only at hSw); go_simp; try rfl) hHeld ?_
                go_frame
                refine takeH (i := 1) (some 112) rfl rfl (by kernel_rfl) (by kernel_rfl) (by kernel_rfl) (fun _ _ _ h => h) (by rfl) (fun w hSw => by (try dsimp only at hSw); (have hc := hSw.1.at (i := 0) rfl; go_simp; try rfl)) hHeld ?_
                go_frame
                refine takeH (i := 2) (some 113) rfl rfl (by kernel_rfl) (by kernel_rfl) (by kernel_rfl) (fun _ _ _ h => h) (by rfl) (fun w hSw => by (try dsimp only at hSw); (refine (?_ : _ = Result.ok (Next.value (.bool true)) _); go_simp; try rfl)) hHeld ?_
                go_frame
                refine takeH (i := 3) (some 114) rfl rfl (by kernel_rfl) (by kernel_rfl) (by kernel_rfl) (fun _ _ _ h => h) (by rfl) (fun w hSw => by (try dsimp only at hSw); go_simp; try rfl) hHeld ?_
                go_frame
                refine takeH (i := 4) (some 115) rfl rfl (by kernel_rfl) (by kernel_rfl) (by kernel_rfl) (fun _ _ _ h => h) (by rfl) (fun w hSw => by (try dsimp only at hSw); go_simp; try rfl) hHeld ?_
                go_frame
                refine takeH (i := 5) (some 116) rfl rfl (by kernel_rfl) (by kernel_rfl) (by kernel_rfl) (fun _ _ _ h => h) (by rfl) (fun w hSw => by (try dsimp only at hSw); go_simp; try rfl) hHeld ?_
                go_frame
                refine takeH (i := 8) (some 119) rfl rfl (by kernel_rfl) (by kernel_rfl) (by kernel_rfl) (fun _ _ _ h => h) (by rfl) (fun w hSw => by (try dsimp only at hSw); go_simp; try rfl) hHeld ?_
                go_frame
                refine takeH (i := 9) (some 120) rfl rfl (by kernel_rfl) (by kernel_rfl) (by kernel_rfl) (fun _ _ _ h => h) (by rfl) (fun w hSw => by (try dsimp only at hSw); go_simp; try rfl) hHeld ?_
                go_frame
                refine takeH (i := 10) (some 121) rfl rfl (by kernel_rfl) (by kernel_rfl) (by kernel_rfl) (fun _ _ _ h => h) (by rfl) (fun w hSw => by (try dsimp only at hSw); (have hc := hSw.1.at (i := 1) rfl; go_simp; try rfl)) hHeld ?_
                go_frame
                refine takeH (i := 11) (some 122) rfl rfl (by kernel_rfl) (by kernel_rfl) (by kernel_rfl) (fun _ _ _ h => h) (by rfl) (fun w hSw => by (try dsimp only at hSw); exact cv_run (x := .tmp 121) rfl rfl (sl.1.keep hSw.2)) hHeld ?_
                go_frame
                refine wpAnyH_ready (rs := [6]) (by kernel_rfl) (by simp) (AllReadyH.cons rfl (fun K hK => ?_) AllReadyH.nil)
                go_simp
                refine (dadd_all _ _ _ _ _ _ _ l _ _ h3 (by omega) hD3 hC3.ow.sl hlb (by omega) (by omega) (by omega)).mono ?_
                rintro e Y1 ⟨rfl, v4, h4, m4, hD4a, hD4b⟩
                have hR4 := hR3.mw h3 hD3 m4
                have hM4 := hM3.mwT h3 hD3 m4 (by decide) (by decide) (by decide)
                have hT4 : Txo Y1 W.heap.size vr rs := own_mw hT3 h3 hD3 m4 (by decide) (by decide) (by decide)
                have hO4 := hHeld.1.mwT h3 hD3 m4 (by decide) (by decide) (by decide)
                have bw4 := hHeld.2.trans (m4.below h3 ha1)
                have hcown4 : Y1.ownsRow X.heap.size 5 1 (.slice (some ⟨gc, 0, none⟩) (l.length + 2) capc) (l.length + 2) (bys (l ++ [165, 90])) := own_at hcown3 fun g' hg' => m4.other g' (hcown3.lt g' hg').2 (fun he => blk_own hcown3 h3.blk (by decide) (by rw [← he]; exact hg')) (fun he => blk_own hcown3 hD3 (by decide) (by rw [← he]; exact hg')) (fun he => by
                  have e9 : gc = g' := by simpa [Value.ownBlock] using hg'
                  exact hcs g' he e9.symm)
                have hcs4 : ∀ k, v4.ownBlock = some k → k ≠ gc := fun k hk he => by
                  rcases m4.next k hk with e | e
                  · exact hcs k e he
                  · have := (hcown3.lt gc rfl).2
                    omega
                show K _ _
                refine hK.out _ _ ⟨hO4, bw4⟩ (fun hHeld => ?_)
                clear hK K m4 hR3 hM3 hT3 hcown3 hD3 h3 hO4 bw4 hC3
                refine wpAnyH_ready (rs := [7]) (by kernel_rfl) (by simp) (AllReadyH.cons rfl (fun K hK => ?_) AllReadyH.nil)
                go_simp
                refine (num_any (adN S l) _).mono ?_
                rintro e X9 ⟨rfl, hX⟩
                subst X9
                show K _ _
                refine hK.out _ _ hHeld (fun hHeld => ?_)
                clear hK K
                refine wpAnyH_ready (rs := [12]) (by kernel_rfl) (by simp) (AllReadyH.cons rfl (fun K hK => ?_) AllReadyH.nil)
                go_simp
                refine (mdadd_all W.heap.size r mm vr rs l S _ hR4 hwf (by omega) hM4 hT4 hrl hlb (by omega)).mono ?_
                rintro e Y2 ⟨rfl, hR5, mq5, hM5a, hM5b⟩
                obtain ⟨ys, hrB⟩ := hR4.blk
                have h5 := h4.mq mq5 hrB hM4
                have hD5a : adN S l = 0 → Blk Y2 dd (dcs b (rs.length + 1) (spN rs + (8 + l.length))) 80 := fun h0 => mq5.blk (hD4a h0) hrB hM4 (by decide) (by decide)
                have hD5b : adN S l ≠ 0 → Blk Y2 dd (dcs b rs.length (spN rs)) 80 := fun h0 => mq5.blk (hD4b h0) hrB hM4 (by decide) (by decide)
                have hT5 : Txo Y2 W.heap.size vr rs := mq5.own hT4 hrB hM4 (by decide) (by decide)
                have hcown5 := mq5.own hcown4 hrB hM4 (by decide) (by decide)
                have hO5 := mq5.blk hHeld.1 hrB hM4 (by decide) (by decide)
                have bw5 := hHeld.2.trans (mq5.below hr ha2 hHeld.2.size)
                have hY1 : W.heap.size ≤ Y1.heap.size := hHeld.2.size
                show K _ _
                refine hK.out _ _ ⟨hO5, bw5⟩ (fun hHeld => ?_)
                clear hK K mq5 hR4 hM4 hT4 hcown4 hD4a hD4b h4 hO5 bw5 hrB
                refine takeH (i := 13) (some 124) rfl rfl (by kernel_rfl) (by kernel_rfl) (by kernel_rfl) (fun _ _ _ h => h) (by rfl) (fun w hSw => by (try dsimp only at hSw); (refine (?_ : _ = Result.ok (Next.value (.bool false)) _); go_simp; try rfl)) hHeld ?_
                go_frame
                refine takeH (i := 14) (some 125) rfl rfl (by kernel_rfl) (by kernel_rfl) (by kernel_rfl) (fun _ _ _ h => h) (by rfl) (fun w hSw => by (try dsimp only at hSw); go_simp; try rfl) hHeld ?_
                go_frame
                refine takeH (i := 15) (some 126) rfl rfl (by kernel_rfl) (by kernel_rfl) (by kernel_rfl) (fun _ _ _ h => h) (by rfl) (fun w hSw => by (try dsimp only at hSw); go_simp; try rfl) hHeld ?_
                go_frame
                refine takeH (i := 16) (some 127) rfl rfl (by kernel_rfl) (by kernel_rfl) (by kernel_rfl) (fun _ _ _ h => h) (by rfl) (fun w hSw => by (try dsimp only at hSw); go_simp; try rfl) hHeld ?_
                go_frame
                refine takeH (i := 17) (some 128) rfl rfl (by kernel_rfl) (by kernel_rfl) (by kernel_rfl) (fun _ _ _ h => h) (by rfl) (fun w hSw => by (try dsimp only at hSw); (have hc := hSw.1.at (i := 0) rfl; go_simp; try rfl)) hHeld ?_
                go_frame
                refine takeH (i := 18) (some 129) rfl rfl (by kernel_rfl) (by kernel_rfl) (by kernel_rfl) (fun _ _ _ h => h) (by rfl) (fun w hSw => by (try dsimp only at hSw); (refine (?_ : _ = Result.ok (Next.value (.bool false)) _); go_simp; try rfl)) hHeld ?_
                go_frame
                refine takeH (i := 19) (some 130) rfl rfl (by kernel_rfl) (by kernel_rfl) (by kernel_rfl) (fun _ _ _ h => h) (by rfl) (fun w hSw => by (try dsimp only at hSw); go_simp; try rfl) hHeld ?_
                go_frame
                refine skipH (i := 20) (some 131) rfl rfl (by kernel_rfl) (by kernel_rfl) (by kernel_rfl) (fun _ _ _ h => h) (by rfl) hHeld ?_
                go_frame
                refine skipH (i := 21) (some 132) rfl rfl (by kernel_rfl) (by kernel_rfl) (by kernel_rfl) (fun _ _ _ h => h) (by rfl) hHeld ?_
                go_frame
                refine skipH (i := 22) (some 133) rfl rfl (by kernel_rfl) (by kernel_rfl) (by kernel_rfl) (fun _ _ _ h => h) (by rfl) hHeld ?_
                go_frame
                refine skipH (i := 23) (some 134) rfl rfl (by kernel_rfl) (by kernel_rfl) (by kernel_rfl) (fun _ _ _ h => h) (by rfl) hHeld ?_
                go_frame
                refine skipH (i := 24) (some 135) rfl rfl (by kernel_rfl) (by kernel_rfl) (by kernel_rfl) (fun _ _ _ h => h) (by rfl) hHeld ?_
                go_frame
                refine skipH (i := 25) (some 136) rfl rfl (by kernel_rfl) (by kernel_rfl) (by kernel_rfl) (fun _ _ _ h => h) (by rfl) hHeld ?_
                go_frame
                refine skipH (i := 26) (some 137) rfl rfl (by kernel_rfl) (by kernel_rfl) (by kernel_rfl) (fun _ _ _ h => h) (by rfl) hHeld ?_
                go_frame
                refine skipH (i := 27) (some 138) rfl rfl (by kernel_rfl) (by kernel_rfl) (by kernel_rfl) (fun _ _ _ h => h) (by rfl) hHeld ?_
                go_frame
                refine skipH (i := 28) (some 139) rfl rfl (by kernel_rfl) (by kernel_rfl) (by kernel_rfl) (fun _ _ _ h => h) (by rfl) hHeld ?_
                go_frame
                refine skipH (i := 29) (some 140) rfl rfl (by kernel_rfl) (by kernel_rfl) (by kernel_rfl) (fun _ _ _ h => h) (by rfl) hHeld ?_
                go_frame
                refine skipH (i := 30) (some 141) rfl rfl (by kernel_rfl) (by kernel_rfl) (by kernel_rfl) (fun _ _ _ h => h) (by rfl) hHeld ?_
                go_frame
                refine takeH (i := 31) (some 142) rfl rfl (by kernel_rfl) (by kernel_rfl) (by kernel_rfl) (fun _ _ _ h => h) (by rfl) (fun w hSw => by (try dsimp only at hSw); go_simp; try rfl) hHeld ?_
                go_frame
                refine takeH (i := 32) (some 143) rfl rfl (by kernel_rfl) (by kernel_rfl) (by kernel_rfl) (fun _ _ _ h => h) (by rfl) (fun w hSw => by (try dsimp only at hSw); go_simp; try rfl) hHeld ?_
                go_frame
                refine takeH (i := 33) (some 144) rfl rfl (by kernel_rfl) (by kernel_rfl) (by kernel_rfl) (fun _ _ _ h => h) (by rfl) (fun w hSw => by (try dsimp only at hSw); go_simp; try rfl) hHeld ?_
                go_frame
                refine takeH (i := 34) (some 145) rfl rfl (by kernel_rfl) (by kernel_rfl) (by kernel_rfl) (fun _ _ _ h => h) (by rfl) (fun w hSw => by (try dsimp only at hSw); go_simp; try rfl) hHeld ?_
                go_frame
                refine takeH (i := 35) (some 146) rfl rfl (by kernel_rfl) (by kernel_rfl) (by kernel_rfl) (fun _ _ _ h => h) (by rfl) (fun w hSw => by (try dsimp only at hSw); go_simp; try rfl) hHeld ?_
                go_frame
                refine takeH (i := 36) (some 147) rfl rfl (by kernel_rfl) (by kernel_rfl) (by kernel_rfl) (fun _ _ _ h => h) (by rfl) (fun w hSw => by (try dsimp only at hSw); (have hc := hSw.1.at (i := 1) rfl; go_simp; try rfl)) hHeld ?_
                go_frame
                refine wpAnyH_ready (rs := [37]) (by kernel_rfl) (by simp) (AllReadyH.cons rfl (fun K hK => ?_) AllReadyH.nil)
                go_simp
                have hC5 : Cp Y2 X.heap.size (.slice (some ⟨gc, 0, none⟩) l.length capc) l := ⟨gc, capc, rfl, hcown5⟩
                refine (kept_any _ _ l _ _ hC5 (sl.1.keep hHeld.2) (by omega)).mono ?_
                rintro e X9 ⟨rfl, hX⟩
                subst X9
                show K _ _
                refine hK.out _ _ hHeld (fun hHeld => ?_)
                clear hK K
                refine takeH (i := 38) (some 149) rfl rfl (by kernel_rfl) (by kernel_rfl) (by kernel_rfl) (fun _ _ _ h => h) (by rfl) (fun w hSw => by (try dsimp only at hSw); go_simp; try rfl) hHeld ?_
                go_frame
                refine takeH (i := 39) (some 150) rfl rfl (by kernel_rfl) (by kernel_rfl) (by kernel_rfl) (fun _ _ _ h => h) (by rfl) (fun w hSw => by (try dsimp only at hSw); go_simp; try rfl) hHeld ?_
                go_frame
                refine wpAnyH_done (by kernel_rfl) ?_ _
                go_wp2_with fail
                refine (over_any _ _ _ _ hC5.ow).mono ?_
                rintro e Y3 ⟨rfl, hk1, -⟩
                have k6 := hk1 gc rfl
                have hcB : ∀ {k : Nat} {xs : Array Value} {t : TypeId}, Blk Y2 k xs t → t ≠ 5 → k ≠ gc := fun {k xs t} hB hn he => blk_own hcown5 hB hn (by rw [he]; rfl)
                have hgW : W.heap.size ≤ gc := Nat.le_trans hWX hgc.1
                obtain ⟨ys, hrB⟩ := hR5.blk
                have h6 := h5.chgO k6 (hcB h5.blk (by decide)) (fun he => hcs4 gc he rfl)
                have hR6 := hR5.chgO k6 (hcB hrB (by decide))
                have bw6 := hHeld.2.trans (k6.below hgW)
                have hiv6 := iv_ad hIv hwf hlb
                have hs6 := steps_ad S l
                go_wp2_with fail
                go_meet
                case rel =>
                  refine ⟨v4, adS S l, h6, hR6, hiv6.1, by omega, ?_, bw6⟩
                  by_cases h0 : adN S l = 0
                  · obtain ⟨vr', hM5, hT5'⟩ := hM5a h0
                    have hD5 := hD5a h0
                    obtain ⟨h9a, h9b⟩ := hiv6.2.2 h0
                    refine .inr ⟨dd, mm, vr', rs ++ [l], rfl, rfl, ha1, ha2, ?_, hM5.chg k6 (hcB hM5 (by decide)), own_chgT (own_less hT5' hY1) k6 (fun he => sep_ty hT5' hcown5 (by decide) gc he rfl), hrs.snoc h9a hlb, by rw [spN_snoc]; omega⟩
                    have hD6 := hD5.chg k6 (hcB hD5 (by decide))
                    rw [show (rs ++ [l]).length = rs.length + 1 by simp, spN_snoc]
                    exact hD6
                  · have hM5 := hM5b h0
                    have hD5 := hD5b h0
                    exact .inr ⟨dd, mm, vr, rs, rfl, rfl, ha1, ha2, hD5.chg k6 (hcB hD5 (by decide)), hM5.chg k6 (hcB hM5 (by decide)), own_chgT hT5 k6 (fun he => sep_ty hT5 hcown5 (by decide) gc he rfl), hrs, Nat.le_trans hsp hiv6.2.1⟩
          · have hk0' : (kd == 0) = false := by simp [hk0]
            by_cases hk1 : kd = 1
            · subst hk1
              rcases hDp2 with ⟨rfl, rfl⟩ | ⟨dd, mm, vr, rs, rfl, rfl, ha1, ha2, hD, hM, hTx, hrs, hsp⟩
              · go_wp2_with fail
                exact ⟨⟨i + 1, v, S, by omega, rfl, h2, hR2, hIv, by omega, .inl ⟨rfl, rfl⟩, bw2⟩, by simp only [intOf]; omega⟩
              · as_aux_lemma =>
                  have hOK : Hid (∀ (X' : World) (v' : Value), Mw b dd X2 X' v v' → Blk X' ob #[.int .i64 1, .slice qx nx capx, .slice qr nr capr, .int .i64 nn] 41) := fun X' v' m => hO2.mwT h2 hD m (by decide) (by decide) (by decide)
                  obtain ⟨gc, capc, ec, hcown⟩ := id hC2
                  subst ec
                  have hgc := hcown.lt gc rfl
                  have hwf := h2.wf
                  have hrl : rs.length ≤ 200000 := by have := spN_len rs; have := hwf.sure; have := hwf.max; omega
                  have hspl : spN rs ≤ 1048576 := by have := hwf.sure; have := hwf.max; omega
                  have hlb : Byt l := sl.2.1
                  have hcs : ∀ k, v.ownBlock = some k → k ≠ gc := fun k hk => by have := hvc k hk; omega
                  go_upto_region 30 with fail
                  refine wp_region_held_drew (S := fun w' => Blk w' ob #[.int .i64 1, .slice qx nx capx, .slice qr nr capr, .int .i64 nn] 41 ∧ Below W.heap.size W w') (by kernel_rfl) ⟨hO2.drew, bw2.drew⟩ (fun hHeld => ?_)
                  have bd : Below X2.heap.size X2 X2.drew := (Below.refl _ _).drew
                  have h3 := h2.keep bd
                  have hR3 := hR2.keep bd
                  have hD3 := hD.keep bd
                  have hM3 := hM.keep bd
                  have hT3 := hTx.keep bd
                  have hcown3 := own_keep hcown bd
                  have hC3 := hC2.keep bd
                  clear bd h2 hR2 hD hM hTx hcown hC2 hO2 p0 bw2 hOK
                  generalize X2.drew = V at *
                  have hrb : ∀ l' ∈ ls, Byt l' := fun l' hl' => (rows.2.1 l' hl').1
                  have hrz : ∀ l' ∈ ls, l'.length ≤ 200000000000000 := fun l' hl' => (rows.2.1 l' hl').2
                  have hrn := rows.2.2
                  refine takeH (i := 0) (some 111) rfl rfl (by kernel_rfl) (by kernel_rfl) (by kernel_rfl) (fun _ _ _ h => h) (by rfl) (fun w hSw => by (try dsimp only at hSw); go_simp; try rfl) hHeld ?_
                  go_frame
                  refine takeH (i := 1) (some 112) rfl rfl (by kernel_rfl) (by kernel_rfl) (by kernel_rfl) (fun _ _ _ h => h) (by rfl) (fun w hSw => by (try dsimp only at hSw); (have hc := hSw.1.at (i := 0) rfl; go_simp; try rfl)) hHeld ?_
                  go_frame
                  refine takeH (i := 2) (some 113) rfl rfl (by kernel_rfl) (by kernel_rfl) (by kernel_rfl) (fun _ _ _ h => h) (by rfl) (fun w hSw => by (try dsimp only at hSw); (refine (?_ : _ = Result.ok (Next.value (.bool false)) _); go_simp; try rfl)) hHeld ?_
                  go_frame
                  refine takeH (i := 3) (some 114) rfl rfl (by kernel_rfl) (by kernel_rfl) (by kernel_rfl) (fun _ _ _ h => h) (by rfl) (fun w hSw => by (try dsimp only at hSw); go_simp; try rfl) hHeld ?_
                  go_frame
                  refine skipH (i := 4) (some 115) rfl rfl (by kernel_rfl) (by kernel_rfl) (by kernel_rfl) (fun _ _ _ h => h) (by rfl) hHeld ?_
                  go_frame
                  refine skipH (i := 5) (some 116) rfl rfl (by kernel_rfl) (by kernel_rfl) (by kernel_rfl) (fun _ _ _ h => h) (by rfl) hHeld ?_
                  go_frame
                  refine skipH (i := 6) (some 117) rfl rfl (by kernel_rfl) (by kernel_rfl) (by kernel_rfl) (fun _ _ _ h => h) (by rfl) hHeld ?_
                  go_frame
                  refine skipH (i := 7) (some 118) rfl rfl (by kernel_rfl) (by kernel_rfl) (by kernel_rfl) (fun _ _ _ h => h) (by rfl) hHeld ?_
                  go_frame
                  refine skipH (i := 8) (some 119) rfl rfl (by kernel_rfl) (by kernel_rfl) (by kernel_rfl) (fun _ _ _ h => h) (by rfl) hHeld ?_
                  go_frame
                  refine skipH (i := 9) (some 120) rfl rfl (by kernel_rfl) (by kernel_rfl) (by kernel_rfl) (fun _ _ _ h => h) (by rfl) hHeld ?_
                  go_frame
                  refine skipH (i := 10) (some 121) rfl rfl (by kernel_rfl) (by kernel_rfl) (by kernel_rfl) (fun _ _ _ h => h) (by rfl) hHeld ?_
                  go_frame
                  refine skipH (i := 11) (some 122) rfl rfl (by kernel_rfl) (by kernel_rfl) (by kernel_rfl) (fun _ _ _ h => h) (by rfl) hHeld ?_
                  go_frame
                  refine skipH (i := 12) (some 123) rfl rfl (by kernel_rfl) (by kernel_rfl) (by kernel_rfl) (fun _ _ _ h => h) (by rfl) hHeld ?_
                  go_frame
                  refine skipH (i := 13) (some 124) rfl rfl (by kernel_rfl) (by kernel_rfl) (by kernel_rfl) (fun _ _ _ h => h) (by rfl) hHeld ?_
                  go_frame
                  refine takeH (i := 14) (some 125) rfl rfl (by kernel_rfl) (by kernel_rfl) (by kernel_rfl) (fun _ _ _ h => h) (by rfl) (fun w hSw => by (try dsimp only at hSw); go_simp; try rfl) hHeld ?_
                  go_frame
                  refine takeH (i := 15) (some 126) rfl rfl (by kernel_rfl) (by kernel_rfl) (by kernel_rfl) (fun _ _ _ h => h) (by rfl) (fun w hSw => by (try dsimp only at hSw); go_simp; try rfl) hHeld ?_
                  go_frame
                  refine takeH (i := 16) (some 127) rfl rfl (by kernel_rfl) (by kernel_rfl) (by kernel_rfl) (fun _ _ _ h => h) (by rfl) (fun w hSw => by (try dsimp only at hSw); go_simp; try rfl) hHeld ?_
                  go_frame
                  refine takeH (i := 17) (some 128) rfl rfl (by kernel_rfl) (by kernel_rfl) (by kernel_rfl) (fun _ _ _ h => h) (by rfl) (fun w hSw => by (try dsimp only at hSw); (have hc := hSw.1.at (i := 0) rfl; go_simp; try rfl)) hHeld ?_
                  go_frame
                  refine takeH (i := 18) (some 129) rfl rfl (by kernel_rfl) (by kernel_rfl) (by kernel_rfl) (fun _ _ _ h => h) (by rfl) (fun w hSw => by (try dsimp only at hSw); (refine (?_ : _ = Result.ok (Next.value (.bool true)) _); go_simp; try rfl)) hHeld ?_
                  go_frame
                  refine takeH (i := 19) (some 130) rfl rfl (by kernel_rfl) (by kernel_rfl) (by kernel_rfl) (fun _ _ _ h => h) (by rfl) (fun w hSw => by (try dsimp only at hSw); go_simp; try rfl) hHeld ?_
                  go_frame
                  refine takeH (i := 20) (some 131) rfl rfl (by kernel_rfl) (by kernel_rfl) (by kernel_rfl) (fun _ _ _ h => h) (by rfl) (fun w hSw => by (try dsimp only at hSw); go_simp; try rfl) hHeld ?_
                  go_frame
                  refine takeH (i := 21) (some 132) rfl rfl (by kernel_rfl) (by kernel_rfl) (by kernel_rfl) (fun _ _ _ h => h) (by rfl) (fun w hSw => by (try dsimp only at hSw); go_simp; try rfl) hHeld ?_
                  go_frame
                  refine takeH (i := 22) (some 133) rfl rfl (by kernel_rfl) (by kernel_rfl) (by kernel_rfl) (fun _ _ _ h => h) (by rfl) (fun w hSw => by (try dsimp only at hSw); (have hc := hSw.1.at (i := 2) rfl; go_simp; try rfl)) hHeld ?_
                  go_frame
                  refine takeH (i := 25) (some 136) rfl rfl (by kernel_rfl) (by kernel_rfl) (by kernel_rfl) (fun _ _ _ h => h) (by rfl) (fun w hSw => by (try dsimp only at hSw); go_simp; try rfl) hHeld ?_
                  go_frame
                  refine takeH (i := 26) (some 137) rfl rfl (by kernel_rfl) (by kernel_rfl) (by kernel_rfl) (fun _ _ _ h => h) (by rfl) (fun w hSw => by (try dsimp only at hSw); go_simp; try rfl) hHeld ?_
                  go_frame
                  refine takeH (i := 27) (some 138) rfl rfl (by kernel_rfl) (by kernel_rfl) (by kernel_rfl) (fun _ _ _ h => h) (by rfl) (fun w hSw => by (try dsimp only at hSw); (have hc := hSw.1.at (i := 2) rfl; go_simp; try rfl)) hHeld ?_
                  go_frame
                  refine wpAnyH_ready (rs := [23]) (by kernel_rfl) (by simp) (AllReadyH.cons rfl (fun K hK => ?_) AllReadyH.nil)
                  go_simp
                  refine (drewrite_any _ _ _ _ _ _ _ vs ls _ _ h3 (by omega) hD3 (rows.1.keep hHeld.2) hrb hrz).mono ?_
                  rintro e Y1 ⟨rfl, v4, h4, m4, hD4a, hD4b⟩
                  have hR4 := hR3.mw h3 hD3 m4
                  have hM4 := hM3.mwT h3 hD3 m4 (by decide) (by decide) (by decide)
                  have hT4 : Txo Y1 W.heap.size vr rs := own_mw hT3 h3 hD3 m4 (by decide) (by decide) (by decide)
                  have hO4 := hHeld.1.mwT h3 hD3 m4 (by decide) (by decide) (by decide)
                  have bw4 := hHeld.2.trans (m4.below h3 ha1)
                  have hcown4 : Y1.ownsRow X.heap.size 5 1 (.slice (some ⟨gc, 0, none⟩) (l.length + 2) capc) (l.length + 2) (bys (l ++ [165, 90])) := own_at hcown3 fun g' hg' => m4.other g' (hcown3.lt g' hg').2 (fun he => blk_own hcown3 h3.blk (by decide) (by rw [← he]; exact hg')) (fun he => blk_own hcown3 hD3 (by decide) (by rw [← he]; exact hg')) (fun he => by
                    have e9 : gc = g' := by simpa [Value.ownBlock] using hg'
                    exact hcs g' he e9.symm)
                  have hcs4 : ∀ k, v4.ownBlock = some k → k ≠ gc := fun k hk he => by
                    rcases m4.next k hk with e | e
                    · exact hcs k e he
                    · have := (hcown3.lt gc rfl).2
                      omega
                  show K _ _
                  refine hK.out _ _ ⟨hO4, bw4⟩ (fun hHeld => ?_)
                  clear hK K m4 hR3 hM3 hT3 hcown3 hD3 h3 hO4 bw4 hC3
                  refine wpAnyH_ready (rs := [24]) (by kernel_rfl) (by simp) (AllReadyH.cons rfl (fun K hK => ?_) AllReadyH.nil)
                  go_simp
                  refine (num_any (rwN S ls) _).mono ?_
                  rintro e X9 ⟨rfl, hX⟩
                  subst X9
                  show K _ _
                  refine hK.out _ _ hHeld (fun hHeld => ?_)
                  clear hK K
                  refine wpAnyH_ready (rs := [28]) (by kernel_rfl) (by simp) (AllReadyH.cons rfl (fun K hK => ?_) AllReadyH.nil)
                  go_simp
                  refine (dtexts_any _ vs ls _ (rows.1.keep hHeld.2) hrn).mono ?_
                  rintro e Y9 ⟨v9, rfl, T9, b9⟩
                  have h4' := h4.keep b9
                  have hR4' := hR4.keep b9
                  have hM4' := hM4.keep b9
                  have hT4' := hT4.keep b9
                  have hcown4' := own_keep hcown4 b9
                  have hD4a' : rwN S ls = 0 → Blk Y9 dd (dcs b ls.length (spN ls)) 80 := fun h0 => (hD4a h0).keep b9
                  have hD4b' : rwN S ls ≠ 0 → Blk Y9 dd (dcs b rs.length (spN rs)) 80 := fun h0 => (hD4b h0).keep b9
                  show K _ _
                  refine hK.out _ _ ⟨hHeld.1.keep b9, ab_trans hHeld.2 b9⟩ (fun hHeld => ?_)
                  clear hK K h4 hR4 hM4 hT4 hcown4 hD4a hD4b b9
                  refine wpAnyH_ready (rs := [29]) (by kernel_rfl) (by simp) (AllReadyH.cons rfl (fun K hK => ?_) AllReadyH.nil)
                  go_simp
                  refine (mdrw_any _ r mm vr v9 rs ls S _ hR4' hwf (by omega) hM4' T9 hrb hrz hrn).mono ?_
                  rintro e Y2 ⟨rfl, hR5, mq5, hM5a, hM5b⟩
                  obtain ⟨ys, hrB⟩ := hR4'.blk
                  have h5 := h4'.mq mq5 hrB hM4'
                  have hD5a : rwN S ls = 0 → Blk Y2 dd (dcs b ls.length (spN ls)) 80 := fun h0 => mq5.blk (hD4a' h0) hrB hM4' (by decide) (by decide)
                  have hD5b : rwN S ls ≠ 0 → Blk Y2 dd (dcs b rs.length (spN rs)) 80 := fun h0 => mq5.blk (hD4b' h0) hrB hM4' (by decide) (by decide)
                  have hT5 : Txo Y2 W.heap.size vr rs := mq5.own hT4' hrB hM4' (by decide) (by decide)
                  have hcown5 := mq5.own hcown4' hrB hM4' (by decide) (by decide)
                  have hO5 := mq5.blk hHeld.1 hrB hM4' (by decide) (by decide)
                  have bw5 := hHeld.2.trans (mq5.below hr ha2 hHeld.2.size)
                  have hY1 : W.heap.size ≤ Y9.heap.size := hHeld.2.size
                  show K _ _
                  refine hK.out _ _ ⟨hO5, bw5⟩ (fun hHeld => ?_)
                  clear hK K mq5 hR4' hM4' hT4' hcown4' hD4a' hD4b' h4' hO5 bw5 hrB T9
                  refine takeH (i := 30) (some 141) rfl rfl (by kernel_rfl) (by kernel_rfl) (by kernel_rfl) (fun _ _ _ h => h) (by rfl) (fun w hSw => by (try dsimp only at hSw); (refine (?_ : _ = Result.ok (Next.value (.bool false)) _); go_simp; try rfl)) hHeld ?_
                  go_frame
                  refine takeH (i := 31) (some 142) rfl rfl (by kernel_rfl) (by kernel_rfl) (by kernel_rfl) (fun _ _ _ h => h) (by rfl) (fun w hSw => by (try dsimp only at hSw); go_simp; try rfl) hHeld ?_
                  go_frame
                  refine takeH (i := 32) (some 143) rfl rfl (by kernel_rfl) (by kernel_rfl) (by kernel_rfl) (fun _ _ _ h => h) (by rfl) (fun w hSw => by (try dsimp only at hSw); go_simp; try rfl) hHeld ?_
                  go_frame
                  refine takeH (i := 33) (some 144) rfl rfl (by kernel_rfl) (by kernel_rfl) (by kernel_rfl) (fun _ _ _ h => h) (by rfl) (fun w hSw => by (try dsimp only at hSw); go_simp; try rfl) hHeld ?_
                  go_frame
                  refine takeH (i := 34) (some 145) rfl rfl (by kernel_rfl) (by kernel_rfl) (by kernel_rfl) (fun _ _ _ h => h) (by rfl) (fun w hSw => by (try dsimp only at hSw); go_simp; try rfl) hHeld ?_
                  go_frame
                  refine takeH (i := 35) (some 146) rfl rfl (by kernel_rfl) (by kernel_rfl) (by kernel_rfl) (fun _ _ _ h => h) (by rfl) (fun w hSw => by (try dsimp only at hSw); go_simp; try rfl) hHeld ?_
                  go_frame
                  refine takeH (i := 36) (some 147) rfl rfl (by kernel_rfl) (by kernel_rfl) (by kernel_rfl) (fun _ _ _ h => h) (by rfl) (fun w hSw => by (try dsimp only at hSw); (have hc := hSw.1.at (i := 1) rfl; go_simp; try rfl)) hHeld ?_
                  go_frame
                  refine wpAnyH_ready (rs := [37]) (by kernel_rfl) (by simp) (AllReadyH.cons rfl (fun K hK => ?_) AllReadyH.nil)
                  go_simp
                  have hC5 : Cp Y2 X.heap.size (.slice (some ⟨gc, 0, none⟩) l.length capc) l := ⟨gc, capc, rfl, hcown5⟩
                  refine (kept_any _ _ l _ _ hC5 (sl.1.keep hHeld.2) (by omega)).mono ?_
                  rintro e X9 ⟨rfl, hX⟩
                  subst X9
                  show K _ _
                  refine hK.out _ _ hHeld (fun hHeld => ?_)
                  clear hK K
                  refine takeH (i := 38) (some 149) rfl rfl (by kernel_rfl) (by kernel_rfl) (by kernel_rfl) (fun _ _ _ h => h) (by rfl) (fun w hSw => by (try dsimp only at hSw); go_simp; try rfl) hHeld ?_
                  go_frame
                  refine takeH (i := 39) (some 150) rfl rfl (by kernel_rfl) (by kernel_rfl) (by kernel_rfl) (fun _ _ _ h => h) (by rfl) (fun w hSw => by (try dsimp only at hSw); go_simp; try rfl) hHeld ?_
                  go_frame
                  refine wpAnyH_done (by kernel_rfl) ?_ _
                  go_wp2_with fail
                  refine (over_any _ _ _ _ hC5.ow).mono ?_
                  rintro e Y3 ⟨rfl, hk1, -⟩
                  have k6 := hk1 gc rfl
                  have hcB : ∀ {k : Nat} {xs : Array Value} {t : TypeId}, Blk Y2 k xs t → t ≠ 5 → k ≠ gc := fun {k xs t} hB hn he => blk_own hcown5 hB hn (by rw [he]; rfl)
                  have hgW : W.heap.size ≤ gc := Nat.le_trans hWX hgc.1
                  obtain ⟨ys, hrB⟩ := hR5.blk
                  have h6 := h5.chgO k6 (hcB h5.blk (by decide)) (fun he => hcs4 gc he rfl)
                  have hR6 := hR5.chgO k6 (hcB hrB (by decide))
                  have bw6 := hHeld.2.trans (k6.below hgW)
                  have hiv6 := iv_rw hIv hrb
                  have hs6 := steps_rw3 S ls
                  go_wp2_with fail
                  go_meet
                  case rel =>
                    refine ⟨v4, rwS S ls, h6, hR6, hiv6.1, by omega, ?_, bw6⟩
                    by_cases h0 : rwN S ls = 0
                    · obtain ⟨vr', hM5, hT5'⟩ := hM5a h0
                      have hD5 := hD5a h0
                      obtain ⟨h9a, h9b⟩ := hiv6.2.2 h0
                      exact .inr ⟨dd, mm, vr', ls, rfl, rfl, ha1, ha2, hD5.chg k6 (hcB hD5 (by decide)), hM5.chg k6 (hcB hM5 (by decide)), own_chgT (own_less hT5' hY1) k6 (fun he => sep_ty hT5' hcown5 (by decide) gc he rfl), fun r' hr' => ⟨((rwOK_iff ls).1 h9b).1 r' hr', hrb r' hr'⟩, by rw [h9a]; exact Nat.le_refl _⟩
                    · have hM5 := hM5b h0
                      have hD5 := hD5b h0
                      exact .inr ⟨dd, mm, vr, rs, rfl, rfl, ha1, ha2, hD5.chg k6 (hcB hD5 (by decide)), hM5.chg k6 (hcB hM5 (by decide)), own_chgT hT5 k6 (fun he => sep_ty hT5 hcown5 (by decide) gc he rfl), hrs, by rw [hiv6.2.1 h0]; exact hsp⟩
            · have hk1' : (kd == 1) = false := by simp [hk1]
              by_cases hk2 : kd = 2
              · subst hk2
                as_aux_lemma =>
                  by_cases hneg : nn < 0
                  · have hng : ¬ (0 : Int) ≤ nn := by omega
                    have p3 := hO2.at (i := 3) rfl
                    go_wp2_with fail
                    go_meet
                    case rel => exact ⟨v, S, h2, hR2, hIv, by omega, hDp2, bw2⟩
                  · obtain ⟨N, rfl⟩ := Int.eq_ofNat_of_zero_le (Int.not_lt.1 hneg)
                    have p3 := hO2.at (i := 3) rfl
                    go_upto_region 36 with (go_at_call 23; refine (arm_ok _ _ _ _ N _ h2 (by have := hbn.2; omega)).mono ?_; rintro e X3 ⟨rfl, h3, m3⟩; have hO3 := hO2.mv h2 m3 (by decide) (by decide); have g3 := hO3.at (i := 3) rfl)
                    have hR3 := hR2.mv h2 m3
                    have hDp3 := hDp2.mv h2 m3 (Nat.le_refl _)
                    have bw3 := bw2.trans (h2.below m3)
                    have htw := tp_two h3 hR3
                    obtain ⟨ar, lf, un, hB3, har, hlf, hun⟩ := hR3
                    have hor : ob ≠ r := blk_ne hO3 hB3 (by decide)
                    refine wp_region_held_drew (S := fun w' => w'.cell? ⟨ob, 3, none⟩ = some (.int .i64 ((N : Nat) : Int))) (by kernel_rfl) g3 (fun hHeld => ?_)
                    have hB4 : Blk X3.drew r (rcs S ar lf un) 29 := hB3
                    have kd4 := chg_drew r X3
                    clear hneg p3 p0 h2 hR2 hDp2 bw2 m3
                    generalize X3.drew = V at *
                    have p3 := hB4.at (i := 3) rfl
                    have p5 := hB4.at (i := 5) rfl
                    have q3 := hB4.frozen 3
                    have q5 := hB4.frozen 5
                    refine takeH (i := 0) (some 162) rfl rfl (by kernel_rfl) (by kernel_rfl) (by kernel_rfl) (fun _ _ _ h => h) (by rfl) (fun w hSw => by (try dsimp only at hSw); go_simp; try rfl) hHeld ?_
                    go_frame
                    refine takeH (i := 1) (some 163) rfl rfl (by kernel_rfl) (by kernel_rfl) (by kernel_rfl) (fun _ _ _ h => h) (by rfl) (fun w hSw => by (try dsimp only at hSw); go_simp; try rfl) hHeld ?_
                    go_frame
                    refine takeH (i := 2) (some 164) rfl rfl (by kernel_rfl) (by kernel_rfl) (by kernel_rfl) (fun _ _ _ h => h) (by rfl) (fun w hSw => by (try dsimp only at hSw); go_simp; try rfl) hHeld ?_
                    go_frame
                    refine takeH (i := 3) (some 165) rfl rfl (by kernel_rfl) (by kernel_rfl) (by kernel_rfl) (fun _ _ _ h => h) (by rfl) (fun w hSw => by (try dsimp only at hSw); (have hc := hSw; go_simp; try rfl)) hHeld ?_
                    go_frame
                    refine takeH (i := 4) (some 166) rfl rfl (by kernel_rfl) (by kernel_rfl) (by kernel_rfl) (fun _ _ _ h => h) (by rfl) (fun w hSw => by (try dsimp only at hSw); go_simp; try rfl) hHeld ?_
                    go_frame
                    refine takeH (i := 5) (some 167) rfl rfl (by kernel_rfl) (by kernel_rfl) (by kernel_rfl) (fun _ _ _ h => h) (by rfl) (fun w hSw => by (try dsimp only at hSw); go_simp; try rfl) hHeld ?_
                    go_frame
                    refine wpAnyH_ready (rs := [6]) (by kernel_rfl) (by simp) (AllReadyH.cons rfl (fun K hK => ?_) AllReadyH.nil)
                    go_simp
                    refine hK.out _ _ ((World.cell?_of_block (w := V) (a := ⟨ob, 3, none⟩) ((chg_set V r 3 (.bool true)).other _ hor)).trans hHeld) (fun hHeld => ?_)
                    clear hK K
                    have hB5 := hB4.set 3 (.bool true)
                    have k5 := chg_set V r 3 (.bool true)
                    clear p3 p5 q3 q5
                    generalize V.setCell ⟨r, 3, none⟩ (.bool true) = V5 at *
                    have p5 := hB5.at (i := 5) rfl
                    have q5 := hB5.frozen 5
                    refine takeH (i := 7) (some 168) rfl rfl (by kernel_rfl) (by kernel_rfl) (by kernel_rfl) (fun _ _ _ h => h) (by rfl) (fun w hSw => by (try dsimp only at hSw); go_simp; try rfl) hHeld ?_
                    go_frame
                    refine takeH (i := 8) (some 169) rfl rfl (by kernel_rfl) (by kernel_rfl) (by kernel_rfl) (fun _ _ _ h => h) (by rfl) (fun w hSw => by (try dsimp only at hSw); go_simp; try rfl) hHeld ?_
                    go_frame
                    refine wpAnyH_ready (rs := [9]) (by kernel_rfl) (by simp) (AllReadyH.cons rfl (fun K hK => ?_) AllReadyH.nil)
                    go_simp
                    refine hK.out _ _ ((World.cell?_of_block (w := V5) (a := ⟨ob, 3, none⟩) ((chg_set V5 r 5 (.int .i64 ((N : Nat) : Int))).other _ hor)).trans hHeld) (fun hHeld => ?_)
                    clear hK K
                    refine wpAnyH_done (by kernel_rfl) ?_ _
                    have hB6 := hB5.set 5 (.int .i64 ((N : Nat) : Int))
                    have k6 := (kd4.trans k5).trans (chg_set V5 r 5 (.int .i64 ((N : Nat) : Int)))
                    go_wp2_with fail
                    go_meet
                    case rel => exact ⟨v, { S with os := true, oa := N }, h3.chgO k6 (Ne.symm htw.1) htw.2, ⟨true, ((N : Nat) : Int), un, hB6, (fun _ => rfl), (fun _ _ => rfl), hun⟩, ⟨hIv.byt, hIv.full⟩, by show S.steps ≤ _; omega, hDp3.chg hB3 k6 (by decide) (by decide) (by decide) (Nat.le_refl _), bw3.trans (k6.below hr)⟩
              · have hk2' : (kd == 2) = false := by simp [hk2]
                by_cases hk3 : kd = 3
                · subst hk3
                  as_aux_lemma =>
                    by_cases hneg : nn < 0
                    · have hng : ¬ (0 : Int) ≤ nn := by omega
                      have p3 := hO2.at (i := 3) rfl
                      go_wp2_with fail
                      go_meet
                      case rel => exact ⟨v, S, h2, hR2, hIv, by omega, hDp2, bw2⟩
                    · obtain ⟨N, rfl⟩ := Int.eq_ofNat_of_zero_le (Int.not_lt.1 hneg)
                      have p3 := hO2.at (i := 3) rfl
                      go_upto_region 40 with (go_at_call 24; refine (fail_ok _ _ _ _ N _ h2 (by have := hbn.2; omega)).mono ?_; rintro e X3 ⟨rfl, h3, m3⟩; have hO3 := hO2.mv h2 m3 (by decide) (by decide); have g3 := hO3.at (i := 3) rfl)
                      have hR3 := hR2.mv h2 m3
                      have hDp3 := hDp2.mv h2 m3 (Nat.le_refl _)
                      have bw3 := bw2.trans (h2.below m3)
                      have htw := tp_two h3 hR3
                      obtain ⟨ar, lf, un, hB3, har, hlf, hun⟩ := hR3
                      have hor : ob ≠ r := blk_ne hO3 hB3 (by decide)
                      refine wp_region_held_drew (S := fun w' => w'.cell? ⟨ob, 3, none⟩ = some (.int .i64 ((N : Nat) : Int))) (by kernel_rfl) g3 (fun hHeld => ?_)
                      have hB4 : Blk X3.drew r (rcs S ar lf un) 29 := hB3
                      have kd4 := chg_drew r X3
                      clear hneg p3 p0 h2 hR2 hDp2 bw2 m3
                      generalize X3.drew = V at *
                      have p3 := hB4.at (i := 4) rfl
                      have p5 := hB4.at (i := 6) rfl
                      have q3 := hB4.frozen 4
                      have q5 := hB4.frozen 6
                      refine takeH (i := 0) (some 179) rfl rfl (by kernel_rfl) (by kernel_rfl) (by kernel_rfl) (fun _ _ _ h => h) (by rfl) (fun w hSw => by (try dsimp only at hSw); go_simp; try rfl) hHeld ?_
                      go_frame
                      refine takeH (i := 1) (some 180) rfl rfl (by kernel_rfl) (by kernel_rfl) (by kernel_rfl) (fun _ _ _ h => h) (by rfl) (fun w hSw => by (try dsimp only at hSw); go_simp; try rfl) hHeld ?_
                      go_frame
                      refine takeH (i := 2) (some 181) rfl rfl (by kernel_rfl) (by kernel_rfl) (by kernel_rfl) (fun _ _ _ h => h) (by rfl) (fun w hSw => by (try dsimp only at hSw); go_simp; try rfl) hHeld ?_
                      go_frame
                      refine takeH (i := 3) (some 182) rfl rfl (by kernel_rfl) (by kernel_rfl) (by kernel_rfl) (fun _ _ _ h => h) (by rfl) (fun w hSw => by (try dsimp only at hSw); (have hc := hSw; go_simp; try rfl)) hHeld ?_
                      go_frame
                      refine takeH (i := 4) (some 183) rfl rfl (by kernel_rfl) (by kernel_rfl) (by kernel_rfl) (fun _ _ _ h => h) (by rfl) (fun w hSw => by (try dsimp only at hSw); go_simp; try rfl) hHeld ?_
                      go_frame
                      refine takeH (i := 5) (some 184) rfl rfl (by kernel_rfl) (by kernel_rfl) (by kernel_rfl) (fun _ _ _ h => h) (by rfl) (fun w hSw => by (try dsimp only at hSw); go_simp; try rfl) hHeld ?_
                      go_frame
                      refine wpAnyH_ready (rs := [6]) (by kernel_rfl) (by simp) (AllReadyH.cons rfl (fun K hK => ?_) AllReadyH.nil)
                      go_simp
                      refine hK.out _ _ ((World.cell?_of_block (w := V) (a := ⟨ob, 3, none⟩) ((chg_set V r 4 (.bool true)).other _ hor)).trans hHeld) (fun hHeld => ?_)
                      clear hK K
                      have hB5 := hB4.set 4 (.bool true)
                      have k5 := chg_set V r 4 (.bool true)
                      clear p3 p5 q3 q5
                      generalize V.setCell ⟨r, 4, none⟩ (.bool true) = V5 at *
                      have p5 := hB5.at (i := 6) rfl
                      have q5 := hB5.frozen 6
                      refine takeH (i := 7) (some 185) rfl rfl (by kernel_rfl) (by kernel_rfl) (by kernel_rfl) (fun _ _ _ h => h) (by rfl) (fun w hSw => by (try dsimp only at hSw); go_simp; try rfl) hHeld ?_
                      go_frame
                      refine takeH (i := 8) (some 186) rfl rfl (by kernel_rfl) (by kernel_rfl) (by kernel_rfl) (fun _ _ _ h => h) (by rfl) (fun w hSw => by (try dsimp only at hSw); go_simp; try rfl) hHeld ?_
                      go_frame
                      refine wpAnyH_ready (rs := [9]) (by kernel_rfl) (by simp) (AllReadyH.cons rfl (fun K hK => ?_) AllReadyH.nil)
                      go_simp
                      refine hK.out _ _ ((World.cell?_of_block (w := V5) (a := ⟨ob, 3, none⟩) ((chg_set V5 r 6 (.int .i64 ((N : Nat) : Int))).other _ hor)).trans hHeld) (fun hHeld => ?_)
                      clear hK K
                      refine wpAnyH_done (by kernel_rfl) ?_ _
                      have hB6 := hB5.set 6 (.int .i64 ((N : Nat) : Int))
                      have k6 := (kd4.trans k5).trans (chg_set V5 r 6 (.int .i64 ((N : Nat) : Int)))
                      go_wp2_with fail
                      go_meet
                      case rel => exact ⟨v, { S with rs := true, ra := N }, h3.chgO k6 (Ne.symm htw.1) htw.2, ⟨ar, lf, ((N : Nat) : Int), hB6, har, hlf, (fun _ => rfl)⟩, ⟨hIv.byt, hIv.full⟩, by show S.steps ≤ _; omega, hDp3.chg hB3 k6 (by decide) (by decide) (by decide) (Nat.le_refl _), bw3.trans (k6.below hr)⟩
                · have hk3' : (kd == 3) = false := by simp [hk3]
                  as_aux_lemma =>
                    have hk4v : Hid (kd = 4 ∨ (kd == 4) = false) := by
                      by_cases h4 : kd = 4
                      · exact .inl h4
                      · exact .inr (by simp [h4])
                    have p3 := hO2.at (i := 3) rfl
                    have hwf := h2.wf
                    go_upto_if 52 with fail
                    go_cut [] from 52 to 60 (fun wx => ∃ v' S1, Tp wx W.heap.size b v' S1 ∧ Rf wx r S1 ∧ Iv S1 ∧ S1.steps ≤ S.steps ∧ Below W.heap.size W wx)
                    case first =>
                      rcases hk4v.out with h4 | h4
                      · subst h4
                        go_wp2_with (first
                          | (go_at_call 25; refine (crash_any _ _ _ _ nn _ h2 hbn).mono ?_; rintro e X3 ⟨rfl, v3, h3, m3⟩; have hO3 := hO2.mv h2 m3 (by decide) (by decide); have g3 := hO3.at (i := 3) rfl; have hR3 := hR2.mv h2 m3; have bw3 := bw2.trans (h2.below m3))
                          | (go_at_call 26; refine (rcrash_any r S nn _ hR3 hwf.sure hwf.max hbn).mono ?_; rintro e X4 ⟨rfl, hR4, k4⟩))
                        have htw := tp_two h3 hR3
                        go_meet
                        case rel => exact ⟨v3, crS S nn, h3.chgO k4 (Ne.symm htw.1) htw.2, hR4, iv_cr hIv hwf nn, Nat.le_refl _, bw3.trans (k4.below hr)⟩
                      · go_wp2_with fail
                        go_meet
                        case rel => exact ⟨v, S, h2, hR2, hIv, Nat.le_refl _, bw2⟩
                    case rest =>
                    clear h2 hR2 hDp2 bw2 hO2 p0 p3 hC2 b2 hvc hIv hwf
                    obtain ⟨v1, S1, h1, hR1, hIv1, hs1, bw1⟩ := hcut
                    have hwf1 := h1.wf
                    have hst1 : S1.steps < 4611686018427387000 := by omega
                    have hivo := iv_op hIv1 hwf1
                    have hso := steps_op S1
                    have heach := spt_each _ S1.l (Nat.le_refl _) hIv1.byt
                    have hfew := spt_few S1.l hIv1.byt
                    have hmx1 := hwf1.max
                    by_cases hN : opN S1 = 0
                    · go_upto_region 22 with (first
                        | (go_at_call 12; refine (dopen2_any _ _ _ _ _ h1 hst1 hIv1.byt).mono ?_; rintro e X3 ⟨v3, ⟨-, hyes⟩, h3, m3⟩; obtain ⟨dd, vl, vs3, rfl, hd3, hD3, L3, hsep3⟩ := hyes hN; have hR3 := hR1.mv h1 m3; have bw3 := bw1.trans (h1.below m3))
                        | (go_at_call 13; refine (mdopen_any r _ _ hR3 hwf1 hst1 hIv1.byt).mono ?_; rintro e X4 ⟨-, hyes4, hR4, mq4⟩; obtain ⟨mm, vr, rfl, hm4, hM4, T4⟩ := hyes4 hN))
                      obtain ⟨ys, hrB⟩ := hR3.blk
                      have h4 := h3.mq1 mq4 hrB
                      have hD4 := mq4.blk hD3 hrB hrB (by decide) (by decide)
                      have L4 : Lis X4 wc.heap.size vl vs3 (spt S1.l) := ⟨mq4.own L3.row hrB hrB (by decide) (by decide), ⟨L3.bag.1, fun j u l' hu hl' => mq4.own (L3.bag.2 j u l' hu hl') hrB hrB (by decide) (by decide), L3.bag.3⟩, L3.sep⟩
                      have bw4 := bw3.trans (mq4.below hr hr bw3.size)
                      have T4' := T4.less bw3.size
                      have hrok : Rok (spt S1.l) := heach
                      have hspo := hivo.2 hN
                      have hivo1 := hivo.1
                      obtain ⟨qv, cv, ev⟩ := T4'.txs.slice
                      have hX4 : wc.heap.size ≤ X4.heap.size := Nat.le_trans m3.size mq4.size
                      have hda : W.heap.size ≤ dd := Nat.le_trans bw1.size hd3
                      have hma : W.heap.size ≤ mm := Nat.le_trans bw3.size hm4
                      subst ev
                      clear hyes4 hyes mq4 hrB hD3 L3 h3 hR3 bw3 m3 T4 heach hivo
                      generalize spt S1.l = F at *
                      have m1 := hM4.at (i := 1) rfl
                      have e00 := eq00
                      go_upto_region 24 with (first
                        | (go_at_call 15; refine (num_nil _).mono ?_; rintro e X9 ⟨rfl, hX⟩; subst X9)
                        | (go_at_call 27; refine (dsame_yes _ _ vs3 F _ L4.ls T4'.txs hrok.byt).mono ?_; rintro e X5 ⟨rfl, b5⟩))
                      have h5 := h4.keep b5
                      have hR5 := hR4.keep b5
                      have hD5 := hD4.keep b5
                      have hM5 := hM4.keep b5
                      have T5 := T4'.keep b5
                      have L5 := L4.keep b5
                      have bw5 := ab_trans bw4 b5
                      have hX5 := Nat.le_trans hX4 b5.size
                      clear h4 hR4 hD4 hM4 T4' L4 bw4 b5 hX4 m1
                      go_wp2_with (go_at_call 28; refine (apart_lis _ _ _ _ _ L5 hX5 (by omega) (fun l' hl' => by have := (hrok l' hl').1; omega)).mono ?_; rintro e X6 ⟨rfl, ma⟩)
                      go_meet
                      case rel =>
                        obtain ⟨ar, lf, un, hB5, har⟩ := hR5
                        have hown6 : X6.ownsRow W.heap.size 5 1 v3 (opS S1).l.length (bys (opS S1).l) := own_at h5.own fun g' hg' => ma.other g' (h5.own.lt g' hg').2 (fun j u hu he => hsep3 j u hu g' he hg')
                        refine ⟨v3, opS S1, ⟨h5.ge, h5.blk.ma L5.bag ma (by decide), hown6, h5.sure, h5.max, h5.bo, h5.br⟩, ⟨ar, lf, un, hB5.ma L5.bag ma (by decide), har⟩, hivo1, by omega, .inr ⟨dd, mm, _, F, rfl, rfl, hda, hma, hD5.ma L5.bag ma (by decide), hM5.ma L5.bag ma (by decide), own_ma T5 L5.bag ma (by decide), hrok, hspo⟩, ?_⟩
                        refine ⟨ma.os.trans bw5.os, ma.tape.trans bw5.tape, ma.output.trans bw5.output, Nat.le_trans bw5.size ma.size, fun k hk => (ma.other k (Nat.lt_of_lt_of_le hk bw5.size) (fun j u hu he => ?_)).trans (bw5.block k hk)⟩
                        have := (L5.bag.lt hu k he).1
                        have := bw1.size
                        omega
                    · have hz : ((opN S1 : Int) == 0) = false := by simp; omega
                      go_upto_region 22 with (first
                        | (go_at_call 12; refine (dopen2_any _ _ _ _ _ h1 hst1 hIv1.byt).mono ?_; rintro e X3 ⟨v3, ⟨hno, -⟩, h3, m3⟩; obtain rfl := hno hN; have hR3 := hR1.mv h1 m3; have bw3 := bw1.trans (h1.below m3))
                        | (go_at_call 13; refine (mdopen_any r _ _ hR3 hwf1 hst1 hIv1.byt).mono ?_; rintro e X4 ⟨hno4, -, hR4, mq4⟩; obtain rfl := hno4 hN))
                      obtain ⟨ys, hrB⟩ := hR3.blk
                      have h4 := h3.mq1 mq4 hrB
                      have bw4 := bw3.trans (mq4.below hr hr bw3.size)
                      clear hno4 hno mq4 hrB h3 hR3 bw3 m3
                      have hne0 : (opN S1 : Int) ≠ 0 := by omega
                      generalize hNN : (opN S1 : Int) = NN at *
                      go_wp2_with (first
                        | (go_at_call 15; refine (num_err NN hne0 _).mono ?_; rintro e X9 ⟨rfl, hX⟩; subst X9)
                        | (go_at_call 28; refine (apart_nil _).mono ?_; rintro e X5 ⟨rfl, b5⟩))
                      go_meet
                      case rel => exact ⟨v3, opS S1, h4.keep b5, hR4.keep b5, hivo.1, by omega, .inl ⟨rfl, rfl⟩, ab_trans bw4 b5⟩
        case rest =>
          clear h2 hR2 hDp2 bw2 hO2 p0 hC2 b2 hvc sl rows hIv
          obtain ⟨v7, S7, h7, hR7, hIv7, hs7, hDp7, bw7⟩ := hcut
          have hmx := h7.max
          have hsu := h7.sure
          have HDP : Hid (Dp wc W.heap.size b r S7 u5 u8) := hDp7
          obtain ⟨ar, lf, un, hB7, -⟩ := id hR7
          have r0 : ∀ w', Below wc.heap.size wc w' → w'.cell? ⟨r, 0, none⟩ = some (.string (strB (S7.l.take S7.sure))) := fun w' hb => (octR (hB7.keep hb)).c0
          have r1 : ∀ w', Below wc.heap.size wc w' → w'.cell? ⟨r, 1, none⟩ = some (.string (strB (S7.l.drop S7.sure))) := fun w' hb => (octR (hB7.keep hb)).c1
          have r2 : ∀ w', Below wc.heap.size wc w' → w'.cell? ⟨r, 2, none⟩ = some (.int .i64 ((S7.steps : Nat) : Int)) := fun w' hb => (octR (hB7.keep hb)).c2
          have t2 : ∀ w', Below wc.heap.size wc w' → w'.cell? ⟨b, 2, none⟩ = some (.int .i64 ((S7.steps : Nat) : Int)) := fun w' hb => (h7.keep hb).oct.c2
          have hrefl : ((strB S7.l).toList == (strB S7.l).toList) = true := by simp
          rcases hDp7 with ⟨rfl, rfl⟩ | ⟨dd, mm, vr, rs, rfl, rfl, ha1, ha2, hD, hM, hTx, hrs, hsp⟩
          · as_aux_lemma =>
            go_upto_region 41 with fail
            refine wp_region_held_drew (S := fun w' => Below wc.heap.size wc w') (by kernel_rfl) (Below.refl _ _).drew (fun hHeld => ?_)
            generalize wc.drew = V at *
            refine takeH (i := 0) (some 187) rfl rfl (by kernel_rfl) (by kernel_rfl) (by kernel_rfl) (fun _ _ _ h => h) (by rfl) (fun w hSw => by (try dsimp only at hSw); go_simp; try rfl) hHeld ?_
            go_frame
            refine takeH (i := 1) (some 188) rfl rfl (by kernel_rfl) (by kernel_rfl) (by kernel_rfl) (fun _ _ _ h => h) (by rfl) (fun w hSw => by (try dsimp only at hSw); go_simp; try rfl) hHeld ?_
            go_frame
            refine takeH (i := 2) (some 189) rfl rfl (by kernel_rfl) (by kernel_rfl) (by kernel_rfl) (fun _ _ _ h => h) (by rfl) (fun w hSw => by (try dsimp only at hSw); go_simp; try rfl) hHeld ?_
            go_frame
            refine skipH (i := 3) (some 190) rfl rfl (by kernel_rfl) (by kernel_rfl) (by kernel_rfl) (fun _ _ _ h => h) (by rfl) hHeld ?_
            go_frame
            refine skipH (i := 4) (some 191) rfl rfl (by kernel_rfl) (by kernel_rfl) (by kernel_rfl) (fun _ _ _ h => h) (by rfl) hHeld ?_
            go_frame
            refine skipH (i := 5) (some 192) rfl rfl (by kernel_rfl) (by kernel_rfl) (by kernel_rfl) (fun _ _ _ h => h) (by rfl) hHeld ?_
            go_frame
            refine skipH (i := 6) (some 193) rfl rfl (by kernel_rfl) (by kernel_rfl) (by kernel_rfl) (fun _ _ _ h => h) (by rfl) hHeld ?_
            go_frame
            refine skipH (i := 7) (some 194) rfl rfl (by kernel_rfl) (by kernel_rfl) (by kernel_rfl) (fun _ _ _ h => h) (by rfl) hHeld ?_
            go_frame
            refine skipH (i := 8) (some 195) rfl rfl (by kernel_rfl) (by kernel_rfl) (by kernel_rfl) (fun _ _ _ h => h) (by rfl) hHeld ?_
            go_frame
            refine skipH (i := 9) (some 196) rfl rfl (by kernel_rfl) (by kernel_rfl) (by kernel_rfl) (fun _ _ _ h => h) (by rfl) hHeld ?_
            go_frame
            refine skipH (i := 10) (some 197) rfl rfl (by kernel_rfl) (by kernel_rfl) (by kernel_rfl) (fun _ _ _ h => h) (by rfl) hHeld ?_
            go_frame
            refine skipH (i := 11) (some 198) rfl rfl (by kernel_rfl) (by kernel_rfl) (by kernel_rfl) (fun _ _ _ h => h) (by rfl) hHeld ?_
            go_frame
            refine skipH (i := 12) (some 199) rfl rfl (by kernel_rfl) (by kernel_rfl) (by kernel_rfl) (fun _ _ _ h => h) (by rfl) hHeld ?_
            go_frame
            refine skipH (i := 13) (some 200) rfl rfl (by kernel_rfl) (by kernel_rfl) (by kernel_rfl) (fun _ _ _ h => h) (by rfl) hHeld ?_
            go_frame
            refine skipH (i := 14) (some 201) rfl rfl (by kernel_rfl) (by kernel_rfl) (by kernel_rfl) (fun _ _ _ h => h) (by rfl) hHeld ?_
            go_frame
            refine skipH (i := 15) (some 202) rfl rfl (by kernel_rfl) (by kernel_rfl) (by kernel_rfl) (fun _ _ _ h => h) (by rfl) hHeld ?_
            go_frame
            refine skipH (i := 16) (some 203) rfl rfl (by kernel_rfl) (by kernel_rfl) (by kernel_rfl) (fun _ _ _ h => h) (by rfl) hHeld ?_
            go_frame
            refine skipH (i := 17) (some 204) rfl rfl (by kernel_rfl) (by kernel_rfl) (by kernel_rfl) (fun _ _ _ h => h) (by rfl) hHeld ?_
            go_frame
            refine takeH (i := 18) (some 205) rfl rfl (by kernel_rfl) (by kernel_rfl) (by kernel_rfl) (fun _ _ _ h => h) (by rfl) (fun w hSw => by (try dsimp only at hSw); go_simp; try rfl) hHeld ?_
            go_frame
            refine takeH (i := 19) (some 206) rfl rfl (by kernel_rfl) (by kernel_rfl) (by kernel_rfl) (fun _ _ _ h => h) (by rfl) (fun w hSw => by (try dsimp only at hSw); go_simp; try rfl) hHeld ?_
            go_frame
            refine takeH (i := 20) (some 207) rfl rfl (by kernel_rfl) (by kernel_rfl) (by kernel_rfl) (fun _ _ _ h => h) (by rfl) (fun w hSw => by (try dsimp only at hSw); go_simp; try rfl) hHeld ?_
            go_frame
            refine takeH (i := 23) (some 210) rfl rfl (by kernel_rfl) (by kernel_rfl) (by kernel_rfl) (fun _ _ _ h => h) (by rfl) (fun w hSw => by (try dsimp only at hSw); go_simp; try rfl) hHeld ?_
            go_frame
            refine takeH (i := 24) (some 211) rfl rfl (by kernel_rfl) (by kernel_rfl) (by kernel_rfl) (fun _ _ _ h => h) (by rfl) (fun w hSw => by (try dsimp only at hSw); go_simp; try rfl) hHeld ?_
            go_frame
            refine takeH (i := 25) (some 212) rfl rfl (by kernel_rfl) (by kernel_rfl) (by kernel_rfl) (fun _ _ _ h => h) (by rfl) (fun w hSw => by (try dsimp only at hSw); go_simp; try rfl) hHeld ?_
            go_frame
            refine takeH (i := 26) (some 213) rfl rfl (by kernel_rfl) (by kernel_rfl) (by kernel_rfl) (fun _ _ _ h => h) (by rfl) (fun w hSw => by (try dsimp only at hSw); (have hc := r0 w hSw; go_simp; try rfl)) hHeld ?_
            go_frame
            refine takeH (i := 27) (some 214) rfl rfl (by kernel_rfl) (by kernel_rfl) (by kernel_rfl) (fun _ _ _ h => h) (by rfl) (fun w hSw => by (try dsimp only at hSw); go_simp; try rfl) hHeld ?_
            go_frame
            refine takeH (i := 28) (some 215) rfl rfl (by kernel_rfl) (by kernel_rfl) (by kernel_rfl) (fun _ _ _ h => h) (by rfl) (fun w hSw => by (try dsimp only at hSw); go_simp; try rfl) hHeld ?_
            go_frame
            refine takeH (i := 29) (some 216) rfl rfl (by kernel_rfl) (by kernel_rfl) (by kernel_rfl) (fun _ _ _ h => h) (by rfl) (fun w hSw => by (try dsimp only at hSw); go_simp; try rfl) hHeld ?_
            go_frame
            refine takeH (i := 30) (some 217) rfl rfl (by kernel_rfl) (by kernel_rfl) (by kernel_rfl) (fun _ _ _ h => h) (by rfl) (fun w hSw => by (try dsimp only at hSw); (have hc := r1 w hSw; go_simp; try rfl)) hHeld ?_
            go_frame
            refine takeH (i := 31) (some 218) rfl rfl (by kernel_rfl) (by kernel_rfl) (by kernel_rfl) (fun _ _ _ h => h) (by rfl) (fun w hSw => by (try dsimp only at hSw); (refine (?_ : _ = Result.ok (Next.value (.string (strB S7.l))) _); go_simp; rw [if_neg (by rw [strB_len, strB_len, List.length_take, List.length_drop]; omega), strB_app, List.take_append_drop])) hHeld ?_
            go_frame
            refine wpAnyH_ready (rs := [21]) (by kernel_rfl) (by simp) (AllReadyH.cons rfl (fun K hK => ?_) AllReadyH.nil)
            go_simp
            refine (tread_any _ _ _ _ _ (h7.keep hHeld)).mono ?_
            rintro e V9 ⟨v9, rfl, O9, b9⟩
            have hc9 := sl_str O9.sl
            show K _ _
            refine hK.out _ _ (ab_trans hHeld b9) (fun hHeld => ?_)
            clear hK K
            refine wpAnyH_ready (rs := [22]) (by kernel_rfl) (by simp) (AllReadyH.cons rfl (fun K hK => ?_) AllReadyH.nil)
            go_simp
            refine hK.out _ _ hHeld (fun hHeld => ?_)
            clear hK K
            refine takeH (i := 32) (some 219) rfl rfl (by kernel_rfl) (by kernel_rfl) (by kernel_rfl) (fun _ _ _ h => h) (by rfl) (fun w hSw => by (try dsimp only at hSw); (refine (?_ : _ = Result.ok (Next.value (.bool false)) _); go_simp; try rfl)) hHeld ?_
            go_frame
            refine takeH (i := 33) (some 220) rfl rfl (by kernel_rfl) (by kernel_rfl) (by kernel_rfl) (fun _ _ _ h => h) (by rfl) (fun w hSw => by (try dsimp only at hSw); go_simp; try rfl) hHeld ?_
            go_frame
            refine takeH (i := 34) (some 221) rfl rfl (by kernel_rfl) (by kernel_rfl) (by kernel_rfl) (fun _ _ _ h => h) (by rfl) (fun w hSw => by (try dsimp only at hSw); go_simp; try rfl) hHeld ?_
            go_frame
            refine takeH (i := 35) (some 222) rfl rfl (by kernel_rfl) (by kernel_rfl) (by kernel_rfl) (fun _ _ _ h => h) (by rfl) (fun w hSw => by (try dsimp only at hSw); go_simp; try rfl) hHeld ?_
            go_frame
            refine takeH (i := 37) (some 224) rfl rfl (by kernel_rfl) (by kernel_rfl) (by kernel_rfl) (fun _ _ _ h => h) (by rfl) (fun w hSw => by (try dsimp only at hSw); go_simp; try rfl) hHeld ?_
            go_frame
            refine takeH (i := 38) (some 225) rfl rfl (by kernel_rfl) (by kernel_rfl) (by kernel_rfl) (fun _ _ _ h => h) (by rfl) (fun w hSw => by (try dsimp only at hSw); go_simp; try rfl) hHeld ?_
            go_frame
            refine takeH (i := 39) (some 226) rfl rfl (by kernel_rfl) (by kernel_rfl) (by kernel_rfl) (fun _ _ _ h => h) (by rfl) (fun w hSw => by (try dsimp only at hSw); go_simp; try rfl) hHeld ?_
            go_frame
            refine takeH (i := 40) (some 227) rfl rfl (by kernel_rfl) (by kernel_rfl) (by kernel_rfl) (fun _ _ _ h => h) (by rfl) (fun w hSw => by (try dsimp only at hSw); (have hc := r2 w hSw; go_simp; try rfl)) hHeld ?_
            go_frame
            refine wpAnyH_ready (rs := [36]) (by kernel_rfl) (by simp) (AllReadyH.cons rfl (fun K hK => ?_) AllReadyH.nil)
            go_simp
            refine (steps_any _ _ _ (t2 _ hHeld)).mono ?_
            rintro e X7 ⟨rfl, hX⟩
            subst X7
            show K _ _
            refine hK.out _ _ hHeld (fun hHeld => ?_)
            clear hK K
            refine takeH (i := 41) (some 228) rfl rfl (by kernel_rfl) (by kernel_rfl) (by kernel_rfl) (fun _ _ _ h => h) (by rfl) (fun w hSw => by (try dsimp only at hSw); (refine (?_ : _ = Result.ok (Next.value (.bool false)) _); go_simp; try rfl)) hHeld ?_
            go_frame
            refine takeH (i := 42) (some 229) rfl rfl (by kernel_rfl) (by kernel_rfl) (by kernel_rfl) (fun _ _ _ h => h) (by rfl) (fun w hSw => by (try dsimp only at hSw); go_simp; try rfl) hHeld ?_
            go_frame
            refine wpAnyH_done (by kernel_rfl) ?_ _
            go_wp2_with fail
            exact ⟨⟨i + 1, v7, S7, by omega, rfl, h7.keep hHeld, hR7.keep hHeld, hIv7, by omega, HDP.out.keep hHeld, ab_trans bw7 hHeld⟩, by simp only [intOf]; omega⟩
          · as_aux_lemma =>
            obtain ⟨qv, cv, ev⟩ := hTx.txs.slice
            subst ev
            have htx := hTx.txs
            have m1 : ∀ w', Below wc.heap.size wc w' → w'.cell? ⟨mm, 1, none⟩ = some (.slice qv rs.length cv) := fun w' hb => (hM.keep hb).at rfl
            generalize hnrs : rs.length = nrs at *
            go_upto_region 41 with fail
            refine wp_region_held_drew (S := fun w' => Below wc.heap.size wc w') (by kernel_rfl) (Below.refl _ _).drew (fun hHeld => ?_)
            generalize wc.drew = V at *
            refine takeH (i := 0) (some 187) rfl rfl (by kernel_rfl) (by kernel_rfl) (by kernel_rfl) (fun _ _ _ h => h) (by rfl) (fun w hSw => by (try dsimp only at hSw); go_simp; try rfl) hHeld ?_
            go_frame
            refine takeH (i := 1) (some 188) rfl rfl (by kernel_rfl) (by kernel_rfl) (by kernel_rfl) (fun _ _ _ h => h) (by rfl) (fun w hSw => by (try dsimp only at hSw); go_simp; try rfl) hHeld ?_
            go_frame
            refine takeH (i := 2) (some 189) rfl rfl (by kernel_rfl) (by kernel_rfl) (by kernel_rfl) (fun _ _ _ h => h) (by rfl) (fun w hSw => by (try dsimp only at hSw); go_simp; try rfl) hHeld ?_
            go_frame
            refine takeH (i := 3) (some 190) rfl rfl (by kernel_rfl) (by kernel_rfl) (by kernel_rfl) (fun _ _ _ h => h) (by rfl) (fun w hSw => by (try dsimp only at hSw); go_simp; try rfl) hHeld ?_
            go_frame
            refine takeH (i := 5) (some 192) rfl rfl (by kernel_rfl) (by kernel_rfl) (by kernel_rfl) (fun _ _ _ h => h) (by rfl) (fun w hSw => by (try dsimp only at hSw); go_simp; try rfl) hHeld ?_
            go_frame
            refine takeH (i := 6) (some 193) rfl rfl (by kernel_rfl) (by kernel_rfl) (by kernel_rfl) (fun _ _ _ h => h) (by rfl) (fun w hSw => by (try dsimp only at hSw); go_simp; try rfl) hHeld ?_
            go_frame
            refine takeH (i := 7) (some 194) rfl rfl (by kernel_rfl) (by kernel_rfl) (by kernel_rfl) (fun _ _ _ h => h) (by rfl) (fun w hSw => by (try dsimp only at hSw); go_simp; try rfl) hHeld ?_
            go_frame
            refine takeH (i := 8) (some 195) rfl rfl (by kernel_rfl) (by kernel_rfl) (by kernel_rfl) (fun _ _ _ h => h) (by rfl) (fun w hSw => by (try dsimp only at hSw); (have hc := m1 w hSw; go_simp; try rfl)) hHeld ?_
            go_frame
            refine takeH (i := 9) (some 196) rfl rfl (by kernel_rfl) (by kernel_rfl) (by kernel_rfl) (fun _ _ _ h => h) (by rfl) (fun w hSw => by (try dsimp only at hSw); go_simp; try rfl) hHeld ?_
            go_frame
            refine wpAnyH_ready (rs := [4]) (by kernel_rfl) (by simp) (AllReadyH.cons rfl (fun K hK => ?_) AllReadyH.nil)
            go_simp
            refine (dlen_any _ _ _ _ _ (hD.keep hHeld)).mono ?_
            rintro e X7 ⟨rfl, hX⟩
            subst X7
            show K _ _
            refine hK.out _ _ hHeld (fun hHeld => ?_)
            clear hK K
            refine takeH (i := 10) (some 197) rfl rfl (by kernel_rfl) (by kernel_rfl) (by kernel_rfl) (fun _ _ _ h => h) (by rfl) (fun w hSw => by (try dsimp only at hSw); (refine (?_ : _ = Result.ok (Next.value (.bool false)) _); go_simp; try rfl)) hHeld ?_
            go_frame
            refine takeH (i := 11) (some 198) rfl rfl (by kernel_rfl) (by kernel_rfl) (by kernel_rfl) (fun _ _ _ h => h) (by rfl) (fun w hSw => by (try dsimp only at hSw); go_simp; try rfl) hHeld ?_
            go_frame
            refine takeH (i := 12) (some 199) rfl rfl (by kernel_rfl) (by kernel_rfl) (by kernel_rfl) (fun _ _ _ h => h) (by rfl) (fun w hSw => by (try dsimp only at hSw); go_simp; try rfl) hHeld ?_
            go_frame
            refine takeH (i := 14) (some 201) rfl rfl (by kernel_rfl) (by kernel_rfl) (by kernel_rfl) (fun _ _ _ h => h) (by rfl) (fun w hSw => by (try dsimp only at hSw); go_simp; try rfl) hHeld ?_
            go_frame
            refine wpAnyH_ready (rs := [13]) (by kernel_rfl) (by simp) (AllReadyH.cons rfl (fun K hK => ?_) AllReadyH.nil)
            go_simp
            refine (dbytes_any _ _ _ _ _ (hD.keep hHeld)).mono ?_
            rintro e X7 ⟨rfl, hX⟩
            subst X7
            show K _ _
            refine hK.out _ _ hHeld (fun hHeld => ?_)
            clear hK K
            refine wpAnyH_ready (rs := [15]) (by kernel_rfl) (by simp) (AllReadyH.cons rfl (fun K hK => ?_) AllReadyH.nil)
            go_simp
            refine (rbytes_any r mm _ rs _ (hM.keep hHeld) (htx.keep hHeld) hrs (by omega)).mono ?_
            rintro e V8 ⟨rfl, b8⟩
            show K _ _
            refine hK.out _ _ (ab_trans hHeld b8) (fun hHeld => ?_)
            clear hK K
            refine takeH (i := 16) (some 203) rfl rfl (by kernel_rfl) (by kernel_rfl) (by kernel_rfl) (fun _ _ _ h => h) (by rfl) (fun w hSw => by (try dsimp only at hSw); (refine (?_ : _ = Result.ok (Next.value (.bool false)) _); go_simp; try rfl)) hHeld ?_
            go_frame
            refine takeH (i := 17) (some 204) rfl rfl (by kernel_rfl) (by kernel_rfl) (by kernel_rfl) (fun _ _ _ h => h) (by rfl) (fun w hSw => by (try dsimp only at hSw); go_simp; try rfl) hHeld ?_
            go_frame
            refine takeH (i := 18) (some 205) rfl rfl (by kernel_rfl) (by kernel_rfl) (by kernel_rfl) (fun _ _ _ h => h) (by rfl) (fun w hSw => by (try dsimp only at hSw); go_simp; try rfl) hHeld ?_
            go_frame
            refine takeH (i := 19) (some 206) rfl rfl (by kernel_rfl) (by kernel_rfl) (by kernel_rfl) (fun _ _ _ h => h) (by rfl) (fun w hSw => by (try dsimp only at hSw); go_simp; try rfl) hHeld ?_
            go_frame
            refine takeH (i := 20) (some 207) rfl rfl (by kernel_rfl) (by kernel_rfl) (by kernel_rfl) (fun _ _ _ h => h) (by rfl) (fun w hSw => by (try dsimp only at hSw); go_simp; try rfl) hHeld ?_
            go_frame
            refine takeH (i := 23) (some 210) rfl rfl (by kernel_rfl) (by kernel_rfl) (by kernel_rfl) (fun _ _ _ h => h) (by rfl) (fun w hSw => by (try dsimp only at hSw); go_simp; try rfl) hHeld ?_
            go_frame
            refine takeH (i := 24) (some 211) rfl rfl (by kernel_rfl) (by kernel_rfl) (by kernel_rfl) (fun _ _ _ h => h) (by rfl) (fun w hSw => by (try dsimp only at hSw); go_simp; try rfl) hHeld ?_
            go_frame
            refine takeH (i := 25) (some 212) rfl rfl (by kernel_rfl) (by kernel_rfl) (by kernel_rfl) (fun _ _ _ h => h) (by rfl) (fun w hSw => by (try dsimp only at hSw); go_simp; try rfl) hHeld ?_
            go_frame
            refine takeH (i := 26) (some 213) rfl rfl (by kernel_rfl) (by kernel_rfl) (by kernel_rfl) (fun _ _ _ h => h) (by rfl) (fun w hSw => by (try dsimp only at hSw); (have hc := r0 w hSw; go_simp; try rfl)) hHeld ?_
            go_frame
            refine takeH (i := 27) (some 214) rfl rfl (by kernel_rfl) (by kernel_rfl) (by kernel_rfl) (fun _ _ _ h => h) (by rfl) (fun w hSw => by (try dsimp only at hSw); go_simp; try rfl) hHeld ?_
            go_frame
            refine takeH (i := 28) (some 215) rfl rfl (by kernel_rfl) (by kernel_rfl) (by kernel_rfl) (fun _ _ _ h => h) (by rfl) (fun w hSw => by (try dsimp only at hSw); go_simp; try rfl) hHeld ?_
            go_frame
            refine takeH (i := 29) (some 216) rfl rfl (by kernel_rfl) (by kernel_rfl) (by kernel_rfl) (fun _ _ _ h => h) (by rfl) (fun w hSw => by (try dsimp only at hSw); go_simp; try rfl) hHeld ?_
            go_frame
            refine takeH (i := 30) (some 217) rfl rfl (by kernel_rfl) (by kernel_rfl) (by kernel_rfl) (fun _ _ _ h => h) (by rfl) (fun w hSw => by (try dsimp only at hSw); (have hc := r1 w hSw; go_simp; try rfl)) hHeld ?_
            go_frame
            refine takeH (i := 31) (some 218) rfl rfl (by kernel_rfl) (by kernel_rfl) (by kernel_rfl) (fun _ _ _ h => h) (by rfl) (fun w hSw => by (try dsimp only at hSw); (refine (?_ : _ = Result.ok (Next.value (.string (strB S7.l))) _); go_simp; rw [if_neg (by rw [strB_len, strB_len, List.length_take, List.length_drop]; omega), strB_app, List.take_append_drop])) hHeld ?_
            go_frame
            refine wpAnyH_ready (rs := [21]) (by kernel_rfl) (by simp) (AllReadyH.cons rfl (fun K hK => ?_) AllReadyH.nil)
            go_simp
            refine (tread_any _ _ _ _ _ (h7.keep hHeld)).mono ?_
            rintro e V9 ⟨v9, rfl, O9, b9⟩
            have hc9 := sl_str O9.sl
            show K _ _
            refine hK.out _ _ (ab_trans hHeld b9) (fun hHeld => ?_)
            clear hK K
            refine wpAnyH_ready (rs := [22]) (by kernel_rfl) (by simp) (AllReadyH.cons rfl (fun K hK => ?_) AllReadyH.nil)
            go_simp
            refine hK.out _ _ hHeld (fun hHeld => ?_)
            clear hK K
            refine takeH (i := 32) (some 219) rfl rfl (by kernel_rfl) (by kernel_rfl) (by kernel_rfl) (fun _ _ _ h => h) (by rfl) (fun w hSw => by (try dsimp only at hSw); (refine (?_ : _ = Result.ok (Next.value (.bool false)) _); go_simp; try rfl)) hHeld ?_
            go_frame
            refine takeH (i := 33) (some 220) rfl rfl (by kernel_rfl) (by kernel_rfl) (by kernel_rfl) (fun _ _ _ h => h) (by rfl) (fun w hSw => by (try dsimp only at hSw); go_simp; try rfl) hHeld ?_
            go_frame
            refine takeH (i := 34) (some 221) rfl rfl (by kernel_rfl) (by kernel_rfl) (by kernel_rfl) (fun _ _ _ h => h) (by rfl) (fun w hSw => by (try dsimp only at hSw); go_simp; try rfl) hHeld ?_
            go_frame
            refine takeH (i := 35) (some 222) rfl rfl (by kernel_rfl) (by kernel_rfl) (by kernel_rfl) (fun _ _ _ h => h) (by rfl) (fun w hSw => by (try dsimp only at hSw); go_simp; try rfl) hHeld ?_
            go_frame
            refine takeH (i := 37) (some 224) rfl rfl (by kernel_rfl) (by kernel_rfl) (by kernel_rfl) (fun _ _ _ h => h) (by rfl) (fun w hSw => by (try dsimp only at hSw); go_simp; try rfl) hHeld ?_
            go_frame
            refine takeH (i := 38) (some 225) rfl rfl (by kernel_rfl) (by kernel_rfl) (by kernel_rfl) (fun _ _ _ h => h) (by rfl) (fun w hSw => by (try dsimp only at hSw); go_simp; try rfl) hHeld ?_
            go_frame
            refine takeH (i := 39) (some 226) rfl rfl (by kernel_rfl) (by kernel_rfl) (by kernel_rfl) (fun _ _ _ h => h) (by rfl) (fun w hSw => by (try dsimp only at hSw); go_simp; try rfl) hHeld ?_
            go_frame
            refine takeH (i := 40) (some 227) rfl rfl (by kernel_rfl) (by kernel_rfl) (by kernel_rfl) (fun _ _ _ h => h) (by rfl) (fun w hSw => by (try dsimp only at hSw); (have hc := r2 w hSw; go_simp; try rfl)) hHeld ?_
            go_frame
            refine wpAnyH_ready (rs := [36]) (by kernel_rfl) (by simp) (AllReadyH.cons rfl (fun K hK => ?_) AllReadyH.nil)
            go_simp
            refine (steps_any _ _ _ (t2 _ hHeld)).mono ?_
            rintro e X7 ⟨rfl, hX⟩
            subst X7
            show K _ _
            refine hK.out _ _ hHeld (fun hHeld => ?_)
            clear hK K
            refine takeH (i := 41) (some 228) rfl rfl (by kernel_rfl) (by kernel_rfl) (by kernel_rfl) (fun _ _ _ h => h) (by rfl) (fun w hSw => by (try dsimp only at hSw); (refine (?_ : _ = Result.ok (Next.value (.bool false)) _); go_simp; try rfl)) hHeld ?_
            go_frame
            refine takeH (i := 42) (some 229) rfl rfl (by kernel_rfl) (by kernel_rfl) (by kernel_rfl) (fun _ _ _ h => h) (by rfl) (fun w hSw => by (try dsimp only at hSw); go_simp; try rfl) hHeld ?_
            go_frame
            refine wpAnyH_done (by kernel_rfl) ?_ _
            go_wp2_with fail
            exact ⟨⟨i + 1, v7, S7, by omega, rfl, h7.keep hHeld, hR7.keep hHeld, hIv7, by omega, HDP.out.keep hHeld, ab_trans bw7 hHeld⟩, by simp only [intOf]; omega⟩

theorem own : ownKnob Try.prog.godebug = none := by kernel_rfl
theorem laidOut : laidOutB Try.prog = true := by kernel_rfl

set_option maxRecDepth 100000 in
theorem lifted (os : Os) (started : os.Started) (H : Type) (enc : TypeId × Value → H) :
    ReturnsInHanded {} Try.checked os 3 .any (Rows.diaryPlaysSpec.pre6 enc Try.prog Try.f3 Rows.diaryPlaysRow.domain false) (Rows.diaryPlaysSpec.post enc Try.prog Try.f3 false true false false) := by
  refine returnsInHanded_of_change_sized (C := Try.checked) own started (by kernel_rfl) Try.func3
    (ChangeSpec.witness6 (enc := enc) (C := Try.checked) false ⟨#[], #[.slice none 0 0], []⟩ 8 (by kernel_rfl) (by kernel_rfl) (by kernel_rfl) (by kernel_rfl)) ?_
  intro W base args ds gs before hval0 hW hcnd hsz _
  have hval : ∀ (j : Nat) t v, Try.f3.params[j]? = some t → args[j]? = some v → Value.okWide Try.prog W .any base t v := hval0
  have hW' := hW
  obtain ⟨p, q, hA0, hV, rfl, hfz, hnd⟩ := hW
  have hA : DataW.TrodAll enc Try.prog W 0 (fun _ => true) true Try.f3.params.toList args.toList ds p := hA0
  rw [Try.params3] at hA hval
  obtain ⟨v0, vs0, d0, ds0, p0, q0, hargs, rfl, rfl, h0, r0⟩ := trodAll_cons hA
  obtain ⟨rfl, rfl, rfl⟩ := trodAll_nil r0
  obtain rfl : args = #[v0] := by cases args; simp_all
  obtain ⟨rfl, rfl⟩ := trodVars_none hV
  have k0 := h0
  have lt0 : ∀ x ∈ p0, x.block < W.heap.size := by obtain ⟨m, hm⟩ := k0; exact DataW.trod_lt m _ _ _ hm
  obtain ⟨sq0_, sn0_, sk0_, sg0_, so0_, os0_, rfl, Z0_⟩ := open_script (hval 0 22 v0 rfl rfl) h0 (fun n hn => by simpa using List.all_eq_true.1 hsz n (DataW.weights_mem_each (j := 0) (t := 22) (by kernel_rfl) rfl n hn))
  clear hA0 hval0
  refine (walk sq0_ sn0_ sk0_ sg0_ so0_ os0_ Z0_).mono fun e W' ⟨he, bel⟩ => ?_
  subst he
  exact ⟨_, rfl, _, _, _, [], _, [], hW', trodAll_mk1 (shut_bool Try.underlying4 _), (trodAll_cons_mk (Below.trod laidOut (by kernel_rfl) (of_decide_eq_true (by kernel_rfl)) k0 bel lt0) trodAll_mk0), rfl, bel.frame _, fun h => by cases h⟩

theorem over : Rows.diaryPlaysRow.holds Try.pinned (OpenSpec.ofChange Rows.diaryPlaysSpec) :=
  OpenClaim.holds_of_wide 3 Try.f3 rfl rfl rfl rfl rfl rfl rfl ⟨rfl, rfl, rfl, rfl, rfl⟩ rfl rfl rfl rfl rfl (by kernel_rfl) Try.func3 (by kernel_rfl)
    (of_decide_eq_true (by kernel_rfl)) (by unfold Func.isWrapper; first | (rw [if_pos (by decide +kernel)]; kernel_rfl) | (rw [if_neg (by decide +kernel)]; exact ⟨rfl, rfl⟩))
    (fun os started H enc _ => lifted os started H enc)

theorem proved : Rows.DiaryPlaysSaid := over
end Go.Proofs.Ytalbiggmmmkclaa.diaryPlays
namespace Go.Proofs.Ytalbiggmmmkclaa
theorem diaryPlays_holds : Rows.DiaryPlaysSaid := diaryPlays.proved
#print axioms diaryPlays_holds
end Go.Proofs.Ytalbiggmmmkclaa
