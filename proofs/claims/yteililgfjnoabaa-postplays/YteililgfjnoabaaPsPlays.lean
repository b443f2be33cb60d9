/-
  A post, under any calls, holds and answers what the chapter says: estuarylaw08.PostPlays returns true for every input; no condition.
-/
import Derived.Test.YteililgfjnoabaaPoS
import Derived.ProofKit
import Derived.OpenShut
import Derived.ChangeOld
import Derived.Below
import Derived.Lib.SmallJoins
namespace Go.Proofs.Yteililgfjnoabaa.postPlays
open Go.ChangeShapes Go.WideShapes Go.ChangeAt Go.RowKit Go.Joins
set_option linter.unusedVariables false

set_option maxRecDepth 100000 in
set_option maxHeartbeats 16000000 in
theorem walk {W : World} (q : Option Addr) (n cap g off : Nat) (os : List OpP) (hZ : Sc8 W q n cap g off os) :
    Calls Try.prog 3 #[.slice q n cap] W fun e w' => e = .returned (.bool true) ∧ Below W.heap.size W w' := by
  go_enter Try.func3, Try.ntmps3
  go_upto_region 3 with (go_at_call 9; refine (alive8_any _).mono ?_; rintro e V1 ⟨rfl, hb1⟩)
  have Z1 := hZ.keep hb1
  go_wp2_with fail
  refine (long8_any _ _ _ _ _ _ _ Z1).mono ?_
  rintro e V2 ⟨⟨rr, rfl⟩, b2⟩
  have bW := ab_trans hb1 b2
  have Z2 := Z1.keep b2
  clear Z1 hZ hb1 b2
  have hrefl : ∀ m : List Nat, ((strB m).toList == (strB m).toList) = true := fun m => by simp
  cases rr with
  | true =>
    go_wp2_with fail
    go_ret
    exact ⟨rfl, bW⟩
  | false =>
    obtain ⟨hlen, hc, hm, hp, hg, hat, hfew⟩ := Z2
    go_upto_region 6 with (go_at_call 11; refine (pnew_any _).mono ?_; rintro e V3 ⟨rfl, h3, b3⟩)
    have hR0 := Blk.new V3 #[.slice none 0 0, .int .i64 0, .int .i64 0] 30
    have bm : Below V3.heap.size V3 (V3.alloc (.cells #[.slice none 0 0, .int .i64 0, .int .i64 0] 30)) := (Below.refl _ _).alloc (Nat.le_refl _) _
    have h4 := h3.keep bm
    have b4 := ab_trans b3 bm
    generalize V3.alloc (.cells #[.slice none 0 0, .int .i64 0, .int .i64 0] 30) = V4 at *
    have hR4 : Rt V4 V2.heap.size V3.heap.size (.slice none 0 0) ps0 := ⟨b3.size, hR0, World.ownsRow_nil _ _ _ _⟩
    generalize V3.heap.size = r at *
    clear h3 b3 bm hR0
    go_wp2_with fail
    go_loopw [30] (fun x wr => ∃ (k : Nat) (v u : Value) (S : PS), k ≤ n ∧ x = .int .i64 (k : Int) ∧ Pt wr V2.heap.size V2.heap.size v S ∧ Rt wr V2.heap.size r u S ∧ Sep v u ∧ Below V2.heap.size V2 wr) (fun x _ => n - (intOf x).toNat)
    case atStart => exact ⟨0, _, _, ps0, by omega, rfl, h4, hR4, (fun k hk => by cases hk), b4⟩
    case round =>
      clear h4 hR4 b4
      obtain ⟨k, v5, u5, S, hk, rfl, h5, R5, hs5, b5⟩ := hrel
      by_cases ck : k = n
      · subst ck
        clear hat hp hg
        as_aux_lemma =>
          obtain ⟨qu, cu, eu, hcu, hmu⟩ := R5.form
          have r0 : wr.cell? ⟨r, 0, none⟩ = some (.slice qu S.l.length cu) := by rw [← eu]; exact R5.blk.at (i := 0) rfl
          have hmax := h5.max
          go_wp2_with fail
          go_loopw [198] (fun x w2 => ∃ (j : Nat) (v' : Value) (T : Int), j ≤ S.l.length ∧ x = .int .i64 (j : Int) ∧ Pt w2 V2.heap.size V2.heap.size v' ⟨S.l.drop j, S.lost, T⟩ ∧ Rt w2 V2.heap.size r u5 S ∧ Sep v' u5 ∧ Below V2.heap.size V2 w2) (fun x _ => S.l.length - (intOf x).toNat)
          case atStart => exact ⟨0, v5, S.taken, by omega, rfl, h5, R5, hs5, b5⟩
          case round =>
            clear h5 R5 hs5 b5 r0
            obtain ⟨j, v7, T, hj, rfl, h7, R7, hs7, b7⟩ := hrel
            by_cases cj : j = S.l.length
            · rw [List.drop_of_length_le (by omega)] at h7
              obtain ⟨q7, c7, e7, -⟩ := h7.form
              have c2 := h7.tri.c2
              rw [e7] at c2
              have hji : ¬ (j : Int) < (S.l.length : Int) := by omega
              clear cj
              go_wp2_with (go_at_call 21; refine (plen_any _ _ _ _ _ c2).mono ?_; rintro e Y ⟨rfl, hY⟩; subst Y)
              go_ret
              exact ⟨rfl, ab_trans bW b7⟩
            · obtain ⟨m, hm'⟩ : ∃ m, S.l[j]? = some m := ⟨S.l[j], List.getElem?_eq_getElem (by omega)⟩
              obtain ⟨g7, cap7, e7, hc7, hm7, hg7, d7⟩ := R7.at hm'
              rw [eu] at e7
              cases e7
              have hji : (j : Int) < (S.l.length : Int) := by omega
              have hjn : j < S.l.length := by omega
              have hmd : (S.l.drop j)[0]? = some m := by rw [List.getElem?_drop]; exact hm'
              have HD : Hid ((S.l.drop j).eraseIdx 0 = S.l.drop (j + 1)) := drop_zero_erase S.l j
              clear cj hm'
              go_upto_region 53 with (go_at_call 18; refine (deliver_yes _ _ 0 _ _ m _ h7 hmd).mono ?_; rintro e W8 ⟨x8, v8, rfl, M8, h8, m8⟩)
              obtain ⟨R8, hs8⟩ := mvP2 h7 R7 hs7 m8
              have b8 := b7.trans (h7.below m8)
              rw [HD.out] at h8
              have cx := sl_str M8.sl
              have hrm := hrefl m
              clear m8 h7 R7 b7 M8 d7
              go_wp2_with fail
              exact ⟨⟨j + 1, v8, _, by omega, rfl, h8, R8, hs8, b8⟩, by simp only [intOf]; omega⟩
      · obtain ⟨x, hx⟩ : ∃ x, os[k]? = some x := ⟨os[k], List.getElem?_eq_getElem (by omega)⟩
        obtain rfl := hp (by omega)
        have hgl := hg (by omega)
        have o2 := hat k x hx
        have ox := o2.keep hgl b5
        obtain ⟨d0, d1, d2, -, -, -⟩ := ox
        obtain ⟨-, -, -, rows, hbk, hbn⟩ := o2
        have hii : (k : Int) < (n : Int) := by omega
        have hkn : k < n := by omega
        obtain ⟨kd, nn, vr, vs, ls⟩ := x
        dsimp only at d0 d1 d2 rows hbk hbn
        have LV := rows.1
        have hlenr := LV.len
        have HZR : Hid (∀ l ∈ ls, Byt l ∧ l.length ≤ 140737488351232) := rows.2.1
        have hnz := rows.2.2
        obtain ⟨qr, capr, er, hcr, hmr⟩ : ∃ q c, vr = .slice q ls.length c ∧ ls.length ≤ c ∧ c ≤ 9223372036854775807 := by
          obtain ⟨q', cap', g', off', ep', h1, h2, -⟩ := LV.open
          exact ⟨q', cap', ep', h1, h2⟩
        subst er
        clear hat hp hg hx rows
        go_upto_region 9 with fail
        have hO := Blk.new wr #[.int .i64 kd, .slice qr ls.length capr, .int .i64 nn] 33
        have b6 : Below wr.heap.size wr (wr.alloc (.cells #[.int .i64 kd, .slice qr ls.length capr, .int .i64 nn] 33)) := (Below.refl _ _).alloc (Nat.le_refl _) _
        generalize wr.alloc (.cells #[.int .i64 kd, .slice qr ls.length capr, .int .i64 nn] 33) = X at *
        have h6 := h5.keep b6
        have R6 := R5.keep b6
        have bX := ab_trans b5 b6
        have hmax := h6.max
        generalize hbb : wr.heap.size = ob at *
        have o0 := hO.at (i := 0) rfl
        have o1 := hO.at (i := 1) rfl
        have o2 := hO.at (i := 2) rfl
        clear d0 d1 d2 b6 b5 h5 R5 hbb
        by_cases k0 : kd = 0
        · subst k0
          as_aux_lemma =>
            go_upto_region 17 with (refine bs_0 (by kernel_rfl) rfl ?_; intro rv0 W7 own7 b7; go_frame)
            have h7 := h6.keep b7
            have R7 := R6.keep b7
            have hO7 := hO.keep b7
            have bb7 := ab_trans bX b7
            have own7' := own_less own7 bX.size
            have o1 := hO7.at (i := 1) rfl
            clear own7 b7 h6 R6 hO o0 o2 bX
            go_wp2_with fail
            go_loopw [7, 72] (fun rv jv w2 => ∃ (j : Nat) (us : List Value) (u' : Value), j ≤ ls.length ∧ jv = .int .i64 (j : Int) ∧ w2.ownsRow V2.heap.size 34 1 rv j us ∧ Cps w2 V2.heap.size us (ls.take j) ∧ Pt w2 V2.heap.size V2.heap.size v5 S ∧ Rt w2 V2.heap.size r u' (puts S (ls.take j)) ∧ Sep v5 u' ∧ Blk w2 ob #[.int .i64 0, .slice qr ls.length capr, .int .i64 nn] 33 ∧ Below V2.heap.size V2 w2) (fun _ jv _ => ls.length - (intOf jv).toNat)
            case atStart => exact ⟨0, [], u5, by omega, rfl, own7', cps_nil _ _, h7, R7, hs5, hO7, bb7⟩
            case round =>
              clear h7 R7 hO7 bb7 own7' o1
              obtain ⟨j, us, u8, hj, rfl, own8, C8, h8, R8, hs8, hO8, b8⟩ := hrel
              by_cases cj : j = ls.length
              · subst cj
                rw [List.take_of_length_le (Nat.le_refl _)] at C8 R8
                obtain ⟨qR, cR, eR, hcR, hmR⟩ : ∃ q c, u7 = .slice q ls.length c ∧ ls.length ≤ c ∧ c ≤ 9223372036854775807 := by
                  obtain ⟨q', cap', g', off', ep', h1, h2, -⟩ := (cps_ls C8 own8).open
                  exact ⟨q', cap', ep', h1, h2⟩
                subst eR
                obtain ⟨qu, cu, eu, -⟩ := R8.form
                have HBY : Hid (∀ l ∈ ls, Byt l ∧ l.length ≤ 9223372036854775807) := fun l hl => ⟨(HZR.out l hl).1, by have := (HZR.out l hl).2; omega⟩
                obtain ⟨T, hT⟩ : ∃ T : PS, T = puts S ls := ⟨_, rfl⟩
                rw [← hT] at R8 eu
                have HT : Hid (puts S ls = T) := hT.symm
                clear hT
                go_upto_region 23 with fail
                refine wp_region_held_drew (S := fun w' => w'.cell? ⟨r, 0, none⟩ = some (.slice qu T.l.length cu)) (by kernel_rfl) (by rw [← eu]; exact R8.blk.at (i := 0) rfl) (fun hHeld => ?_)
                have bd : Below wr.heap.size wr wr.drew := (Below.refl _ _).drew
                have h9 := h8.keep bd
                have R9 := R8.keep bd
                have b9 := ab_trans b8 bd
                have hO9 := hO8.keep bd
                have own9 := own_keep own8 bd
                have C9 := C8.keep bd
                clear h8 R8 b8 hO8 own8 C8 bd
                generalize wr.drew = V9 at *
                have st : StL V2.heap.size V9 v5 (.slice qR ls.length cR) us ls := fun w' v' m => cps_ls (C9.kin (h9.kin m) (by decide)) (own_kin own9 (h9.kin m) (by decide))
                refine takeH (i := 0) (some 86) rfl rfl (by kernel_rfl) (by kernel_rfl) (by kernel_rfl) (fun _ _ _ h => h) (by rfl) (fun w hSw => by (try dsimp only at hSw); go_simp; try rfl) hHeld ?_
                go_frame
                refine takeH (i := 1) (some 87) rfl rfl (by kernel_rfl) (by kernel_rfl) (by kernel_rfl) (fun _ _ _ h => h) (by rfl) (fun w hSw => by (try dsimp only at hSw); go_simp; try rfl) hHeld ?_
                go_frame
                refine takeH (i := 3) (some 89) rfl rfl (by kernel_rfl) (by kernel_rfl) (by kernel_rfl) (fun _ _ _ h => h) (by rfl) (fun w hSw => by (try dsimp only at hSw); go_simp; try rfl) hHeld ?_
                go_frame
                refine takeH (i := 4) (some 90) rfl rfl (by kernel_rfl) (by kernel_rfl) (by kernel_rfl) (fun _ _ _ h => h) (by rfl) (fun w hSw => by (try dsimp only at hSw); go_simp; try rfl) hHeld ?_
                go_frame
                refine takeH (i := 5) (some 91) rfl rfl (by kernel_rfl) (by kernel_rfl) (by kernel_rfl) (fun _ _ _ h => h) (by rfl) (fun w hSw => by (try dsimp only at hSw); go_simp; try rfl) hHeld ?_
                go_frame
                refine takeH (i := 6) (some 92) rfl rfl (by kernel_rfl) (by kernel_rfl) (by kernel_rfl) (fun _ _ _ h => h) (by rfl) (fun w hSw => by (try dsimp only at hSw); (go_simp; try rfl)) hHeld ?_
                go_frame
                refine takeH (i := 7) (some 93) rfl rfl (by kernel_rfl) (by kernel_rfl) (by kernel_rfl) (fun _ _ _ h => h) (by rfl) (fun w hSw => by (try dsimp only at hSw); go_simp; try rfl) hHeld ?_
                go_frame
                refine wpAnyH_ready (rs := [2]) (by kernel_rfl) (by simp) (AllReadyH.cons rfl (fun K hK => ?_) AllReadyH.nil)
                go_simp
                refine (send_any _ _ _ _ _ _ _ _ _ _ h9 st HBY.out).mono ?_
                rw [HT.out]
                rintro e W10 ⟨rfl, v10, h10, m10⟩
                obtain ⟨R10, hs10⟩ := mvP2 h9 R9 hs8 m10
                have b10 := b9.trans (h9.below m10)
                have hO10 := hO9.kin (h9.kin m10) (by decide)
                have own10 := own_kin own9 (h9.kin m10) (by decide)
                have C10 := C9.kin (h9.kin m10) (by decide)
                show K _ _
                refine hK.out _ _ (by rw [← eu]; exact R10.blk.at (i := 0) rfl) (fun hHeld => ?_)
                clear hK K st h9 R9 b9 hO9 own9 C9 m10
                try go_frame
                refine takeH (i := 8) (some 94) rfl rfl (by kernel_rfl) (by kernel_rfl) (by kernel_rfl) (fun _ _ _ h => h) (by rfl) (fun w hSw => by (try dsimp only at hSw); (refine (?_ : _ = Result.ok (Next.value (.bool false)) _); go_simp; try rfl)) hHeld ?_
                go_frame
                refine wpAnyH_done (by kernel_rfl) ?_ _
                clear hHeld
                have hul := C10.len
                have HSP : Hid (∀ (i j : Nat) (u u' : Value), i < j → us[i]? = some u → us[j]? = some u' → Sep u u') := C10.sep
                go_wp2_with fail
                go_loopw [97] (fun iv w3 => ∃ (i : Nat), i ≤ ls.length ∧ iv = .int .i64 (i : Int) ∧ w3.ownsRow V2.heap.size 34 1 (.slice qR ls.length cR) ls.length us ∧ (∀ (j : Nat) (u : Value) (l : List Nat), i ≤ j → us[j]? = some u → ls[j]? = some l → Cp w3 V2.heap.size u l) ∧ Pt w3 V2.heap.size V2.heap.size v10 T ∧ Rt w3 V2.heap.size r u8 T ∧ Blk w3 ob #[.int .i64 0, .slice qr ls.length capr, .int .i64 nn] 33 ∧ Below V2.heap.size V2 w3) (fun iv _ => ls.length - (intOf iv).toNat)
                case atStart => exact ⟨0, by omega, rfl, own10, fun j u l _ hu hl => C10.each j u l hu hl, h10, R10, hO10, b10⟩
                case round =>
                  clear own10 C10 h10 R10 hO10 b10
                  obtain ⟨i, hi, rfl, own11, hcp, h11, R11, hO11, b11⟩ := hrel
                  by_cases ci : i = ls.length
                  · have hii3 : ¬ (i : Int) < (ls.length : Int) := by omega
                    clear hcp own11
                    go_upto_region 46 with fail
                    clear hO11 ci hii3
                    obtain ⟨qv, cv, ev, -⟩ := h11.form
                    obtain ⟨qu, cu, eu, -⟩ := R11.form
                    refine wp_region_held_drew (S := fun w' => w' = wr.drew) (by kernel_rfl) rfl (fun hHeld => ?_)
                    have bd : Below wr.heap.size wr wr.drew := (Below.refl _ _).drew
                    have P8 := h11.keep bd
                    have R8 := R11.keep bd
                    have bb8 := ab_trans b11 bd
                    have p0 := P8.tri.c0
                    have p1 := P8.tri.c1
                    have p2 : wr.drew.cell? ⟨V2.heap.size, 2, none⟩ = some (.slice qv T.l.length cv) := by rw [← ev]; exact P8.tri.c2
                    have r0 : wr.drew.cell? ⟨r, 0, none⟩ = some (.slice qu T.l.length cu) := by rw [← eu]; exact R8.blk.at (i := 0) rfl
                    have r1 : wr.drew.cell? ⟨r, 1, none⟩ = some (.int .i64 T.lost) := R8.blk.at (i := 1) rfl
                    have r2 : wr.drew.cell? ⟨r, 2, none⟩ = some (.int .i64 T.taken) := R8.blk.at (i := 2) rfl
                    clear bd h11 R11 b11 ev eu
                    generalize wr.drew = Y8 at *
                    refine takeH (i := 0) (some 166) rfl rfl (by kernel_rfl) (by kernel_rfl) (by kernel_rfl) (fun _ _ _ h => h) (by rfl) (fun w hSw => by (try dsimp only at hSw); go_simp; try rfl) hHeld ?_
                    go_frame
                    refine takeH (i := 2) (some 168) rfl rfl (by kernel_rfl) (by kernel_rfl) (by kernel_rfl) (fun _ _ _ h => h) (by rfl) (fun w hSw => by (try dsimp only at hSw); go_simp; try rfl) hHeld ?_
                    go_frame
                    refine takeH (i := 3) (some 169) rfl rfl (by kernel_rfl) (by kernel_rfl) (by kernel_rfl) (fun _ _ _ h => h) (by rfl) (fun w hSw => by (try dsimp only at hSw); go_simp; try rfl) hHeld ?_
                    go_frame
                    refine takeH (i := 4) (some 170) rfl rfl (by kernel_rfl) (by kernel_rfl) (by kernel_rfl) (fun _ _ _ h => h) (by rfl) (fun w hSw => by (try dsimp only at hSw); go_simp; try rfl) hHeld ?_
                    go_frame
                    refine takeH (i := 5) (some 171) rfl rfl (by kernel_rfl) (by kernel_rfl) (by kernel_rfl) (fun _ _ _ h => h) (by rfl) (fun w hSw => by (try dsimp only at hSw); (subst hSw; go_simp; try rfl)) hHeld ?_
                    go_frame
                    refine takeH (i := 6) (some 172) rfl rfl (by kernel_rfl) (by kernel_rfl) (by kernel_rfl) (fun _ _ _ h => h) (by rfl) (fun w hSw => by (try dsimp only at hSw); go_simp; try rfl) hHeld ?_
                    go_frame
                    refine wpAnyH_ready (rs := [1]) (by kernel_rfl) (by simp) (AllReadyH.cons rfl (fun K hK => ?_) AllReadyH.nil)
                    go_simp
                    refine (plen_any _ _ _ _ _ p2).mono ?_
                    rintro e Z ⟨rfl, hZ⟩
                    subst Z
                    show K _ _
                    refine hK.out _ _ rfl (fun hHeld => ?_)
                    clear hK K
                    try go_frame
                    refine takeH (i := 7) (some 173) rfl rfl (by kernel_rfl) (by kernel_rfl) (by kernel_rfl) (fun _ _ _ h => h) (by rfl) (fun w hSw => by (try dsimp only at hSw); (refine (?_ : _ = Result.ok (Next.value (.bool false)) _); go_simp; try rfl)) hHeld ?_
                    go_frame
                    refine takeH (i := 8) (some 174) rfl rfl (by kernel_rfl) (by kernel_rfl) (by kernel_rfl) (fun _ _ _ h => h) (by rfl) (fun w hSw => by (try dsimp only at hSw); go_simp; try rfl) hHeld ?_
                    go_frame
                    refine takeH (i := 9) (some 175) rfl rfl (by kernel_rfl) (by kernel_rfl) (by kernel_rfl) (fun _ _ _ h => h) (by rfl) (fun w hSw => by (try dsimp only at hSw); go_simp; try rfl) hHeld ?_
                    go_frame
                    refine takeH (i := 11) (some 177) rfl rfl (by kernel_rfl) (by kernel_rfl) (by kernel_rfl) (fun _ _ _ h => h) (by rfl) (fun w hSw => by (try dsimp only at hSw); go_simp; try rfl) hHeld ?_
                    go_frame
                    refine takeH (i := 12) (some 178) rfl rfl (by kernel_rfl) (by kernel_rfl) (by kernel_rfl) (fun _ _ _ h => h) (by rfl) (fun w hSw => by (try dsimp only at hSw); go_simp; try rfl) hHeld ?_
                    go_frame
                    refine takeH (i := 13) (some 179) rfl rfl (by kernel_rfl) (by kernel_rfl) (by kernel_rfl) (fun _ _ _ h => h) (by rfl) (fun w hSw => by (try dsimp only at hSw); go_simp; try rfl) hHeld ?_
                    go_frame
                    refine takeH (i := 14) (some 180) rfl rfl (by kernel_rfl) (by kernel_rfl) (by kernel_rfl) (fun _ _ _ h => h) (by rfl) (fun w hSw => by (try dsimp only at hSw); (subst hSw; go_simp; try rfl)) hHeld ?_
                    go_frame
                    refine wpAnyH_ready (rs := [10]) (by kernel_rfl) (by simp) (AllReadyH.cons rfl (fun K hK => ?_) AllReadyH.nil)
                    go_simp
                    refine (plost_any _ _ _ p0).mono ?_
                    rintro e Z ⟨rfl, hZ⟩
                    subst Z
                    show K _ _
                    refine hK.out _ _ rfl (fun hHeld => ?_)
                    clear hK K
                    try go_frame
                    refine takeH (i := 15) (some 181) rfl rfl (by kernel_rfl) (by kernel_rfl) (by kernel_rfl) (fun _ _ _ h => h) (by rfl) (fun w hSw => by (try dsimp only at hSw); (refine (?_ : _ = Result.ok (Next.value (.bool false)) _); go_simp; try rfl)) hHeld ?_
                    go_frame
                    refine takeH (i := 16) (some 182) rfl rfl (by kernel_rfl) (by kernel_rfl) (by kernel_rfl) (fun _ _ _ h => h) (by rfl) (fun w hSw => by (try dsimp only at hSw); go_simp; try rfl) hHeld ?_
                    go_frame
                    refine takeH (i := 17) (some 183) rfl rfl (by kernel_rfl) (by kernel_rfl) (by kernel_rfl) (fun _ _ _ h => h) (by rfl) (fun w hSw => by (try dsimp only at hSw); go_simp; try rfl) hHeld ?_
                    go_frame
                    refine takeH (i := 18) (some 184) rfl rfl (by kernel_rfl) (by kernel_rfl) (by kernel_rfl) (fun _ _ _ h => h) (by rfl) (fun w hSw => by (try dsimp only at hSw); go_simp; try rfl) hHeld ?_
                    go_frame
                    refine takeH (i := 20) (some 186) rfl rfl (by kernel_rfl) (by kernel_rfl) (by kernel_rfl) (fun _ _ _ h => h) (by rfl) (fun w hSw => by (try dsimp only at hSw); go_simp; try rfl) hHeld ?_
                    go_frame
                    refine takeH (i := 21) (some 187) rfl rfl (by kernel_rfl) (by kernel_rfl) (by kernel_rfl) (fun _ _ _ h => h) (by rfl) (fun w hSw => by (try dsimp only at hSw); go_simp; try rfl) hHeld ?_
                    go_frame
                    refine takeH (i := 22) (some 188) rfl rfl (by kernel_rfl) (by kernel_rfl) (by kernel_rfl) (fun _ _ _ h => h) (by rfl) (fun w hSw => by (try dsimp only at hSw); go_simp; try rfl) hHeld ?_
                    go_frame
                    refine takeH (i := 23) (some 189) rfl rfl (by kernel_rfl) (by kernel_rfl) (by kernel_rfl) (fun _ _ _ h => h) (by rfl) (fun w hSw => by (try dsimp only at hSw); (subst hSw; go_simp; try rfl)) hHeld ?_
                    go_frame
                    refine wpAnyH_ready (rs := [19]) (by kernel_rfl) (by simp) (AllReadyH.cons rfl (fun K hK => ?_) AllReadyH.nil)
                    go_simp
                    refine (ptaken_any _ _ _ p1).mono ?_
                    rintro e Z ⟨rfl, hZ⟩
                    subst Z
                    show K _ _
                    refine hK.out _ _ rfl (fun hHeld => ?_)
                    clear hK K
                    try go_frame
                    refine takeH (i := 24) (some 190) rfl rfl (by kernel_rfl) (by kernel_rfl) (by kernel_rfl) (fun _ _ _ h => h) (by rfl) (fun w hSw => by (try dsimp only at hSw); (refine (?_ : _ = Result.ok (Next.value (.bool false)) _); go_simp; try rfl)) hHeld ?_
                    go_frame
                    refine takeH (i := 25) (some 191) rfl rfl (by kernel_rfl) (by kernel_rfl) (by kernel_rfl) (fun _ _ _ h => h) (by rfl) (fun w hSw => by (try dsimp only at hSw); go_simp; try rfl) hHeld ?_
                    go_frame
                    refine wpAnyH_done (by kernel_rfl) ?_ _
                    go_wp2_with fail
                    exact ⟨⟨k + 1, v10, u8, T, by omega, rfl, P8, R8, hs10, bb8⟩, by simp only [intOf]; omega⟩
                  · obtain ⟨u, hu⟩ : ∃ y, us[i]? = some y := ⟨us[i], List.getElem?_eq_getElem (by omega)⟩
                    obtain ⟨l, hl⟩ : ∃ l, ls[i]? = some l := ⟨ls[i], List.getElem?_eq_getElem (by omega)⟩
                    obtain ⟨y, hy⟩ : ∃ y, vs[i]? = some y := ⟨vs[i], List.getElem?_eq_getElem (by omega)⟩
                    have hii3 : (i : Int) < (ls.length : Int) := by omega
                    have hin3 : i < ls.length := by omega
                    obtain ⟨gr, offr, hq, d⟩ := (pst_old h11 b11 (Nat.le_refl _) LV).cell (Mv.refl _ _ _) hy
                    subst hq
                    have sy := (LV.keep b11).each i y l hy hl
                    obtain ⟨qy, ny, cyy, ey⟩ := sy.slice
                    subst ey
                    have hbl := HZR.out l (List.mem_of_getElem? hl)
                    have hnnR : (Value.slice qR ls.length cR) ≠ .slice none 0 0 := fun e => by injection e with _ e2 _; omega
                    obtain ⟨gR, capR, eR, -, -, -, -, hrR⟩ := own_cells own11 hnnR
                    have dR := hrR i u hu
                    injection eR with eq1 _ eq3
                    subst eq1
                    clear eq3 hrR hnnR
                    have cp := hcp i u l (Nat.le_refl _) hu hl
                    obtain ⟨gu, cuu, eu', -⟩ := id cp
                    have hub : u.ownBlock = some gu := by rw [eu']; rfl
                    have HNX : Hid (∀ (j : Nat) (u' : Value), i + 1 ≤ j → us[j]? = some u' → u'.ownBlock ≠ some gu) := fun j u' hij hu' => HSP.out i j u u' (by omega) hu hu' gu hub
                    have HCP : Hid (∀ (j : Nat) (u : Value) (l : List Nat), i ≤ j → us[j]? = some u → ls[j]? = some l → Cp wr V2.heap.size u l) := hcp
                    have o1 := hO11.at (i := 1) rfl
                    subst eu'
                    clear hu hl hy hcp ci
                    go_upto_region 30 with (go_at_call 15; refine (kept_any _ _ l V2.heap.size _ cp sy hbl.2).mono ?_; rintro e Y ⟨rfl, hY⟩; subst Y)
                    clear o1 d dR sy
                    go_wp2_with (go_at_call 16; refine (over_any V2.heap.size _ l _ cp.ow).mono ?_; rintro e Y ⟨rfl, kY, -⟩)
                    have k12 := kY gu rfl
                    obtain ⟨g', hg', hge, hlt, hkd⟩ := cp.blk
                    have eg : gu = g' := by simpa [Value.ownBlock] using hg'
                    subst eg
                    have kin12 : Kin tB wr Y := kin_chg hkd k12 (.inl rfl)
                    have kin13 : Kin (fun t => t = 5) wr Y := kin_chg hkd k12 rfl
                    refine ⟨⟨i + 1, by omega, rfl, own_kin own11 kin13 (by decide), fun j u' l' hij hu' hl' => ?_, h11.kinB kin12, R11.kinB kin12, hO11.kin kin13 (by decide), b11.trans (k12.below hge)⟩, by simp only [intOf]; omega⟩
                    exact (HCP.out j u' l' (by omega) hu' hl').at fun g2 hg2 => k12.other g2 (fun e => HNX.out j u' hij hu' (by rw [← e]; exact hg2))
              · obtain ⟨y, hy⟩ : ∃ y, vs[j]? = some y := ⟨vs[j], List.getElem?_eq_getElem (by omega)⟩
                obtain ⟨l, hl⟩ : ∃ l, ls[j]? = some l := ⟨ls[j], List.getElem?_eq_getElem (by omega)⟩
                obtain ⟨gr, offr, hq, d⟩ := (pst_old h8 b8 (Nat.le_refl _) LV).cell (Mv.refl _ _ _) hy
                subst hq
                have sy := (LV.keep b8).each j y l hy hl
                obtain ⟨qy, ny, cyy, ey⟩ := sy.slice
                subst ey
                have hbl := HZR.out l (List.mem_of_getElem? hl)
                have HSY : Hid (∀ W', Below V2.heap.size V2 W' → Sl W' (.slice qy ny cyy) l) := fun W' hb => (LV.keep hb).each j _ l hy hl
                have HTK : Hid (ls.take (j + 1) = ls.take j ++ [l]) := by show _ = _; rw [List.take_add_one, hl]; rfl
                have HPT : Hid (puts S (ls.take (j + 1)) = put1 (puts S (ls.take j)) l) := by rw [HTK.out]; exact puts_snoc _ _ _
                have hmj := puts_max (ls.take j) S hmax
                have hji : (j : Int) < (ls.length : Int) := by omega
                have hjn : j < ls.length := by omega
                clear hy hl cj
                go_upto_region 21 with (first
                  | (go_at_call 12; refine (copy_any _ l _ sy hbl.2).mono ?_; rintro e W3 ⟨x3, rfl, cp3, b3⟩; obtain ⟨g3, cap3, e3, -⟩ := id cp3; subst e3)
                  | (at_builtin; refine app_lt V2.heap.size (by kernel_rfl) rfl rfl own8' rfl ls4 rfl (by simp; omega) (ab_trans (ab_trans b8 b3) b4).size ?_; intro rv5 W5 own5 gr5; go_frame)
                  | (have mk := cp3; clear mk; refine bs_ls (by kernel_rfl) rfl [_] [l] (by simp only [List.map_toArray, List.map_cons, List.map_nil]; rfl) (bsl1 _ _ _ _) rfl (by decide) rfl (each1 cp3.ow.sl) ?_; intro W4 ls4 b4 k4; have own8' := own_keep (own_keep own8 b3) b4; go_frame))
                have C4 := (C8.snoc b3 cp3 b8.size).keep b4
                have kinL : Kin (fun t => t = 34) W4 W5 := kin_grown own8' gr5 rfl
                have kinB5 : Kin tB W4 W5 := kin_grown own8' gr5 (.inr rfl)
                have C5 := C4.kin kinL (by decide)
                have h5' := ((h8.keep b3).keep b4).kinB kinB5
                have R5' := ((R8.keep b3).keep b4).kinB kinB5
                have hO5 := ((hO8.keep b3).keep b4).kin kinL (by decide)
                have b5' := (ab_trans (ab_trans b8 b3) b4).trans (below_ownE own8' (ab_trans (ab_trans b8 b3) b4).size gr5)
                have cy := sl_str (HSY.out _ b5')
                clear C4 kinL kinB5 C8 h8 R8 hO8 own8' gr5 ls4 k4 b3 b4 b8 own8 cp3 d sy
                go_wp2_with (go_at_call 13; refine (rsend_any _ _ _ _ l _ R5' hmj).mono ?_; rintro e W6 ⟨rfl, u6, R6', m6⟩)
                obtain ⟨h6', hs6'⟩ := mvR2 h5' R5' hs8 m6
                exact ⟨⟨j + 1, _, u6, by omega, rfl, own_kin own5 (R5'.kin m6) (by decide), by rw [HTK.out]; exact C5.kin (R5'.kin m6) (by decide), h6', by rw [HPT.out]; exact R6', hs6', hO5.kin (R5'.kin m6) (by decide), b5'.trans (R5'.below m6)⟩, by simp only [intOf]; omega⟩
        · have k0' : (kd == 0) = false := by simpa using k0
          by_cases k1 : kd = 1
          · subst k1
            by_cases hin : 0 ≤ nn ∧ nn < (S.l.length : Int)
            · obtain ⟨i, rfl⟩ : ∃ i : Nat, nn = (i : Int) := ⟨nn.toNat, by omega⟩
              have hil : i < S.l.length := by omega
              obtain ⟨m, hm'⟩ : ∃ m, S.l[i]? = some m := ⟨S.l[i], List.getElem?_eq_getElem hil⟩
              as_aux_lemma =>
                go_upto_region 35 with (go_at_call 17; refine (mtake_yes _ _ i _ _ m _ R6 hmax hm').mono ?_; rintro e W7 ⟨rfl, u7, R7, m7⟩)
                obtain ⟨h7, hs7⟩ := mvR2 h6 R6 hs5 m7
                have b7 := bX.trans (R6.below m7)
                have hO7 := hO.kin (R6.kin m7) (by decide)
                have o0 := hO7.at (i := 0) rfl
                have o2 := hO7.at (i := 2) rfl
                clear m7 h6 R6 bX hO o1
                go_upto_region 37 with (go_at_call 18; refine (deliver_yes _ _ i _ _ m _ h7 hm').mono ?_; rintro e W8 ⟨x8, v8, rfl, M8, h8, m8⟩)
                obtain ⟨R8, hs8⟩ := mvP2 h7 R7 hs7 m8
                have b8 := b7.trans (h7.below m8)
                clear m8 hO7 o0 o2
                have hW7 := h7.lt
                clear h7 R7 b7
                have cx := sl_str M8.sl
                have hrm := hrefl m
                go_upto_region 40 with (go_at_call 16; refine (overm_any _ _ _ _ M8).mono ?_; rintro e Y ⟨rfl, kY⟩)
                obtain ⟨g8, cap8, cur8, e8, hb8, hg8, -⟩ := M8
                have k8 := kY g8 (by rw [e8]; rfl)
                have kin8 : Kin tB W8 Y := kin_chg (t := 5) ⟨cur8, _, hg8⟩ k8 (.inl rfl)
                have h9 := h8.kinB kin8
                have R9 := R8.kinB kin8
                have b9 := b8.trans (k8.below (Nat.le_trans (Nat.le_of_lt hW7) hb8))
                clear kY k8 kin8 hg8 hb8 e8 h8 R8 b8 cx
                have c2 : Y.cell? ⟨r, 2, none⟩ = some (.int .i64 S.taken) := R9.blk.at (i := 2) rfl
                have f2 := R9.blk.frozen 2
                go_upto_region 46 with fail
                have he : Y.setCell ⟨r, 2, none⟩ (.int .i64 (wrap64 (S.taken + 1))) = Y.setCell ⟨r, 2, none⟩ (.int .i64 (inc S.taken)) := rfl
                rw [he]
                have k9 := chg_set Y r 2 (.int .i64 (inc S.taken))
                have R10 := R9.chg (S' := ⟨S.l.eraseIdx i, S.lost, inc S.taken⟩) (R9.blk.set 2 (.int .i64 (inc S.taken))) k9 rfl
                obtain ⟨h10, hs10⟩ := mvR2 h9 R9 hs8 (mv_chg u7 k9)
                have b10 := b9.trans (R9.below (mv_chg u7 k9))
                clear he k9 R9 h9 b9 c2 f2 hs8
                generalize Y.setCell ⟨r, 2, none⟩ (.int .i64 (inc S.taken)) = W9 at *
                obtain ⟨S9, hS9⟩ : ∃ S9 : PS, S9 = ⟨S.l.eraseIdx i, S.lost, inc S.taken⟩ := ⟨_, rfl⟩
                rw [← hS9] at h10 R10
                clear hS9
                obtain ⟨qv, cv, ev, -⟩ := h10.form
                obtain ⟨qu, cu, eu, -⟩ := R10.form
                refine wp_region_held_drew (S := fun w' => w' = W9.drew) (by kernel_rfl) rfl (fun hHeld => ?_)
                have bd : Below W9.heap.size W9 W9.drew := (Below.refl _ _).drew
                have P8 := h10.keep bd
                have R8 := R10.keep bd
                have bb8 := ab_trans b10 bd
                have p0 := P8.tri.c0
                have p1 := P8.tri.c1
                have p2 : W9.drew.cell? ⟨V2.heap.size, 2, none⟩ = some (.slice qv S9.l.length cv) := by rw [← ev]; exact P8.tri.c2
                have r0 : W9.drew.cell? ⟨r, 0, none⟩ = some (.slice qu S9.l.length cu) := by rw [← eu]; exact R8.blk.at (i := 0) rfl
                have r1 : W9.drew.cell? ⟨r, 1, none⟩ = some (.int .i64 S9.lost) := R8.blk.at (i := 1) rfl
                have r2 : W9.drew.cell? ⟨r, 2, none⟩ = some (.int .i64 S9.taken) := R8.blk.at (i := 2) rfl
                clear bd h10 R10 b10 ev eu
                generalize W9.drew = Y8 at *
                refine takeH (i := 0) (some 166) rfl rfl (by kernel_rfl) (by kernel_rfl) (by kernel_rfl) (fun _ _ _ h => h) (by rfl) (fun w hSw => by (try dsimp only at hSw); go_simp; try rfl) hHeld ?_
                go_frame
                refine takeH (i := 2) (some 168) rfl rfl (by kernel_rfl) (by kernel_rfl) (by kernel_rfl) (fun _ _ _ h => h) (by rfl) (fun w hSw => by (try dsimp only at hSw); go_simp; try rfl) hHeld ?_
                go_frame
                refine takeH (i := 3) (some 169) rfl rfl (by kernel_rfl) (by kernel_rfl) (by kernel_rfl) (fun _ _ _ h => h) (by rfl) (fun w hSw => by (try dsimp only at hSw); go_simp; try rfl) hHeld ?_
                go_frame
                refine takeH (i := 4) (some 170) rfl rfl (by kernel_rfl) (by kernel_rfl) (by kernel_rfl) (fun _ _ _ h => h) (by rfl) (fun w hSw => by (try dsimp only at hSw); go_simp; try rfl) hHeld ?_
                go_frame
                refine takeH (i := 5) (some 171) rfl rfl (by kernel_rfl) (by kernel_rfl) (by kernel_rfl) (fun _ _ _ h => h) (by rfl) (fun w hSw => by (try dsimp only at hSw); (subst hSw; go_simp; try rfl)) hHeld ?_
                go_frame
                refine takeH (i := 6) (some 172) rfl rfl (by kernel_rfl) (by kernel_rfl) (by kernel_rfl) (fun _ _ _ h => h) (by rfl) (fun w hSw => by (try dsimp only at hSw); go_simp; try rfl) hHeld ?_
                go_frame
                refine wpAnyH_ready (rs := [1]) (by kernel_rfl) (by simp) (AllReadyH.cons rfl (fun K hK => ?_) AllReadyH.nil)
                go_simp
                refine (plen_any _ _ _ _ _ p2).mono ?_
                rintro e Z ⟨rfl, hZ⟩
                subst Z
                show K _ _
                refine hK.out _ _ rfl (fun hHeld => ?_)
                clear hK K
                try go_frame
                refine takeH (i := 7) (some 173) rfl rfl (by kernel_rfl) (by kernel_rfl) (by kernel_rfl) (fun _ _ _ h => h) (by rfl) (fun w hSw => by (try dsimp only at hSw); (refine (?_ : _ = Result.ok (Next.value (.bool false)) _); go_simp; try rfl)) hHeld ?_
                go_frame
                refine takeH (i := 8) (some 174) rfl rfl (by kernel_rfl) (by kernel_rfl) (by kernel_rfl) (fun _ _ _ h => h) (by rfl) (fun w hSw => by (try dsimp only at hSw); go_simp; try rfl) hHeld ?_
                go_frame
                refine takeH (i := 9) (some 175) rfl rfl (by kernel_rfl) (by kernel_rfl) (by kernel_rfl) (fun _ _ _ h => h) (by rfl) (fun w hSw => by (try dsimp only at hSw); go_simp; try rfl) hHeld ?_
                go_frame
                refine takeH (i := 11) (some 177) rfl rfl (by kernel_rfl) (by kernel_rfl) (by kernel_rfl) (fun _ _ _ h => h) (by rfl) (fun w hSw => by (try dsimp only at hSw); go_simp; try rfl) hHeld ?_
                go_frame
                refine takeH (i := 12) (some 178) rfl rfl (by kernel_rfl) (by kernel_rfl) (by kernel_rfl) (fun _ _ _ h => h) (by rfl) (fun w hSw => by (try dsimp only at hSw); go_simp; try rfl) hHeld ?_
                go_frame
                refine takeH (i := 13) (some 179) rfl rfl (by kernel_rfl) (by kernel_rfl) (by kernel_rfl) (fun _ _ _ h => h) (by rfl) (fun w hSw => by (try dsimp only at hSw); go_simp; try rfl) hHeld ?_
                go_frame
                refine takeH (i := 14) (some 180) rfl rfl (by kernel_rfl) (by kernel_rfl) (by kernel_rfl) (fun _ _ _ h => h) (by rfl) (fun w hSw => by (try dsimp only at hSw); (subst hSw; go_simp; try rfl)) hHeld ?_
                go_frame
                refine wpAnyH_ready (rs := [10]) (by kernel_rfl) (by simp) (AllReadyH.cons rfl (fun K hK => ?_) AllReadyH.nil)
                go_simp
                refine (plost_any _ _ _ p0).mono ?_
                rintro e Z ⟨rfl, hZ⟩
                subst Z
                show K _ _
                refine hK.out _ _ rfl (fun hHeld => ?_)
                clear hK K
                try go_frame
                refine takeH (i := 15) (some 181) rfl rfl (by kernel_rfl) (by kernel_rfl) (by kernel_rfl) (fun _ _ _ h => h) (by rfl) (fun w hSw => by (try dsimp only at hSw); (refine (?_ : _ = Result.ok (Next.value (.bool false)) _); go_simp; try rfl)) hHeld ?_
                go_frame
                refine takeH (i := 16) (some 182) rfl rfl (by kernel_rfl) (by kernel_rfl) (by kernel_rfl) (fun _ _ _ h => h) (by rfl) (fun w hSw => by (try dsimp only at hSw); go_simp; try rfl) hHeld ?_
                go_frame
                refine takeH (i := 17) (some 183) rfl rfl (by kernel_rfl) (by kernel_rfl) (by kernel_rfl) (fun _ _ _ h => h) (by rfl) (fun w hSw => by (try dsimp only at hSw); go_simp; try rfl) hHeld ?_
                go_frame
                refine takeH (i := 18) (some 184) rfl rfl (by kernel_rfl) (by kernel_rfl) (by kernel_rfl) (fun _ _ _ h => h) (by rfl) (fun w hSw => by (try dsimp only at hSw); go_simp; try rfl) hHeld ?_
                go_frame
                refine takeH (i := 20) (some 186) rfl rfl (by kernel_rfl) (by kernel_rfl) (by kernel_rfl) (fun _ _ _ h => h) (by rfl) (fun w hSw => by (try dsimp only at hSw); go_simp; try rfl) hHeld ?_
                go_frame
                refine takeH (i := 21) (some 187) rfl rfl (by kernel_rfl) (by kernel_rfl) (by kernel_rfl) (fun _ _ _ h => h) (by rfl) (fun w hSw => by (try dsimp only at hSw); go_simp; try rfl) hHeld ?_
                go_frame
                refine takeH (i := 22) (some 188) rfl rfl (by kernel_rfl) (by kernel_rfl) (by kernel_rfl) (fun _ _ _ h => h) (by rfl) (fun w hSw => by (try dsimp only at hSw); go_simp; try rfl) hHeld ?_
                go_frame
                refine takeH (i := 23) (some 189) rfl rfl (by kernel_rfl) (by kernel_rfl) (by kernel_rfl) (fun _ _ _ h => h) (by rfl) (fun w hSw => by (try dsimp only at hSw); (subst hSw; go_simp; try rfl)) hHeld ?_
                go_frame
                refine wpAnyH_ready (rs := [19]) (by kernel_rfl) (by simp) (AllReadyH.cons rfl (fun K hK => ?_) AllReadyH.nil)
                go_simp
                refine (ptaken_any _ _ _ p1).mono ?_
                rintro e Z ⟨rfl, hZ⟩
                subst Z
                show K _ _
                refine hK.out _ _ rfl (fun hHeld => ?_)
                clear hK K
                try go_frame
                refine takeH (i := 24) (some 190) rfl rfl (by kernel_rfl) (by kernel_rfl) (by kernel_rfl) (fun _ _ _ h => h) (by rfl) (fun w hSw => by (try dsimp only at hSw); (refine (?_ : _ = Result.ok (Next.value (.bool false)) _); go_simp; try rfl)) hHeld ?_
                go_frame
                refine takeH (i := 25) (some 191) rfl rfl (by kernel_rfl) (by kernel_rfl) (by kernel_rfl) (fun _ _ _ h => h) (by rfl) (fun w hSw => by (try dsimp only at hSw); go_simp; try rfl) hHeld ?_
                go_frame
                refine wpAnyH_done (by kernel_rfl) ?_ _
                go_wp2_with fail
                exact ⟨⟨k + 1, v8, u7, S9, by omega, rfl, P8, R8, hs10, bb8⟩, by simp only [intOf]; omega⟩
            · skip
              as_aux_lemma =>
                go_upto_region 35 with (go_at_call 17; refine (mtake_no _ _ nn _ _ _ R6 hmax hin).mono ?_; rintro e W7 ⟨rfl, u7, R7, m7⟩)
                obtain ⟨h7, hs7⟩ := mvR2 h6 R6 hs5 m7
                have b7 := bX.trans (R6.below m7)
                have hO7 := hO.kin (R6.kin m7) (by decide)
                have o0 := hO7.at (i := 0) rfl
                have o2 := hO7.at (i := 2) rfl
                clear m7 h6 R6 bX hO o1
                go_upto_region 37 with (go_at_call 18; refine (deliver_no _ _ nn _ _ _ h7 hin).mono ?_; rintro e Y ⟨rfl, hY⟩; subst Y)
                have cx := sl_str (sl_nil W7)
                have hrm := hrefl []
                clear hO7 o0 o2
                go_upto_region 46 with (go_at_call 16; refine (over_any 0 _ [] _ (World.ownsRow_nil _ _ _ _)).mono ?_; rintro e Y ⟨rfl, -, hY⟩; have hY2 := hY rfl; clear hY; subst Y)
                obtain ⟨qv, cv, ev, -⟩ := h7.form
                obtain ⟨qu, cu, eu, -⟩ := R7.form
                refine wp_region_held_drew (S := fun w' => w' = W7.drew) (by kernel_rfl) rfl (fun hHeld => ?_)
                have bd : Below W7.heap.size W7 W7.drew := (Below.refl _ _).drew
                have P8 := h7.keep bd
                have R8 := R7.keep bd
                have bb8 := ab_trans b7 bd
                have p0 := P8.tri.c0
                have p1 := P8.tri.c1
                have p2 : W7.drew.cell? ⟨V2.heap.size, 2, none⟩ = some (.slice qv S.l.length cv) := by rw [← ev]; exact P8.tri.c2
                have r0 : W7.drew.cell? ⟨r, 0, none⟩ = some (.slice qu S.l.length cu) := by rw [← eu]; exact R8.blk.at (i := 0) rfl
                have r1 : W7.drew.cell? ⟨r, 1, none⟩ = some (.int .i64 S.lost) := R8.blk.at (i := 1) rfl
                have r2 : W7.drew.cell? ⟨r, 2, none⟩ = some (.int .i64 S.taken) := R8.blk.at (i := 2) rfl
                clear bd h7 R7 b7 ev eu
                generalize W7.drew = Y8 at *
                refine takeH (i := 0) (some 166) rfl rfl (by kernel_rfl) (by kernel_rfl) (by kernel_rfl) (fun _ _ _ h => h) (by rfl) (fun w hSw => by (try dsimp only at hSw); go_simp; try rfl) hHeld ?_
                go_frame
                refine takeH (i := 2) (some 168) rfl rfl (by kernel_rfl) (by kernel_rfl) (by kernel_rfl) (fun _ _ _ h => h) (by rfl) (fun w hSw => by (try dsimp only at hSw); go_simp; try rfl) hHeld ?_
                go_frame
                refine takeH (i := 3) (some 169) rfl rfl (by kernel_rfl) (by kernel_rfl) (by kernel_rfl) (fun _ _ _ h => h) (by rfl) (fun w hSw => by (try dsimp only at hSw); go_simp; try rfl) hHeld ?_
                go_frame
                refine takeH (i := 4) (some 170) rfl rfl (by kernel_rfl) (by kernel_rfl) (by kernel_rfl) (fun _ _ _ h => h) (by rfl) (fun w hSw => by (try dsimp only at hSw); go_simp; try rfl) hHeld ?_
                go_frame
                refine takeH (i := 5) (some 171) rfl rfl (by kernel_rfl) (by kernel_rfl) (by kernel_rfl) (fun _ _ _ h => h) (by rfl) (fun w hSw => by (try dsimp only at hSw); (subst hSw; go_simp; try rfl)) hHeld ?_
                go_frame
                refine takeH (i := 6) (some 172) rfl rfl (by kernel_rfl) (by kernel_rfl) (by kernel_rfl) (fun _ _ _ h => h) (by rfl) (fun w hSw => by (try dsimp only at hSw); go_simp; try rfl) hHeld ?_
                go_frame
                refine wpAnyH_ready (rs := [1]) (by kernel_rfl) (by simp) (AllReadyH.cons rfl (fun K hK => ?_) AllReadyH.nil)
                go_simp
                refine (plen_any _ _ _ _ _ p2).mono ?_
                rintro e Z ⟨rfl, hZ⟩
                subst Z
                show K _ _
                refine hK.out _ _ rfl (fun hHeld => ?_)
                clear hK K
                try go_frame
                refine takeH (i := 7) (some 173) rfl rfl (by kernel_rfl) (by kernel_rfl) (by kernel_rfl) (fun _ _ _ h => h) (by rfl) (fun w hSw => by (try dsimp only at hSw); (refine (?_ : _ = Result.ok (Next.value (.bool false)) _); go_simp; try rfl)) hHeld ?_
                go_frame
                refine takeH (i := 8) (some 174) rfl rfl (by kernel_rfl) (by kernel_rfl) (by kernel_rfl) (fun _ _ _ h => h) (by rfl) (fun w hSw => by (try dsimp only at hSw); go_simp; try rfl) hHeld ?_
                go_frame
                refine takeH (i := 9) (some 175) rfl rfl (by kernel_rfl) (by kernel_rfl) (by kernel_rfl) (fun _ _ _ h => h) (by rfl) (fun w hSw => by (try dsimp only at hSw); go_simp; try rfl) hHeld ?_
                go_frame
                refine takeH (i := 11) (some 177) rfl rfl (by kernel_rfl) (by kernel_rfl) (by kernel_rfl) (fun _ _ _ h => h) (by rfl) (fun w hSw => by (try dsimp only at hSw); go_simp; try rfl) hHeld ?_
                go_frame
                refine takeH (i := 12) (some 178) rfl rfl (by kernel_rfl) (by kernel_rfl) (by kernel_rfl) (fun _ _ _ h => h) (by rfl) (fun w hSw => by (try dsimp only at hSw); go_simp; try rfl) hHeld ?_
                go_frame
                refine takeH (i := 13) (some 179) rfl rfl (by kernel_rfl) (by kernel_rfl) (by kernel_rfl) (fun _ _ _ h => h) (by rfl) (fun w hSw => by (try dsimp only at hSw); go_simp; try rfl) hHeld ?_
                go_frame
                refine takeH (i := 14) (some 180) rfl rfl (by kernel_rfl) (by kernel_rfl) (by kernel_rfl) (fun _ _ _ h => h) (by rfl) (fun w hSw => by (try dsimp only at hSw); (subst hSw; go_simp; try rfl)) hHeld ?_
                go_frame
                refine wpAnyH_ready (rs := [10]) (by kernel_rfl) (by simp) (AllReadyH.cons rfl (fun K hK => ?_) AllReadyH.nil)
                go_simp
                refine (plost_any _ _ _ p0).mono ?_
                rintro e Z ⟨rfl, hZ⟩
                subst Z
                show K _ _
                refine hK.out _ _ rfl (fun hHeld => ?_)
                clear hK K
                try go_frame
                refine takeH (i := 15) (some 181) rfl rfl (by kernel_rfl) (by kernel_rfl) (by kernel_rfl) (fun _ _ _ h => h) (by rfl) (fun w hSw => by (try dsimp only at hSw); (refine (?_ : _ = Result.ok (Next.value (.bool false)) _); go_simp; try rfl)) hHeld ?_
                go_frame
                refine takeH (i := 16) (some 182) rfl rfl (by kernel_rfl) (by kernel_rfl) (by kernel_rfl) (fun _ _ _ h => h) (by rfl) (fun w hSw => by (try dsimp only at hSw); go_simp; try rfl) hHeld ?_
                go_frame
                refine takeH (i := 17) (some 183) rfl rfl (by kernel_rfl) (by kernel_rfl) (by kernel_rfl) (fun _ _ _ h => h) (by rfl) (fun w hSw => by (try dsimp only at hSw); go_simp; try rfl) hHeld ?_
                go_frame
                refine takeH (i := 18) (some 184) rfl rfl (by kernel_rfl) (by kernel_rfl) (by kernel_rfl) (fun _ _ _ h => h) (by rfl) (fun w hSw => by (try dsimp only at hSw); go_simp; try rfl) hHeld ?_
                go_frame
                refine takeH (i := 20) (some 186) rfl rfl (by kernel_rfl) (by kernel_rfl) (by kernel_rfl) (fun _ _ _ h => h) (by rfl) (fun w hSw => by (try dsimp only at hSw); go_simp; try rfl) hHeld ?_
                go_frame
                refine takeH (i := 21) (some 187) rfl rfl (by kernel_rfl) (by kernel_rfl) (by kernel_rfl) (fun _ _ _ h => h) (by rfl) (fun w hSw => by (try dsimp only at hSw); go_simp; try rfl) hHeld ?_
                go_frame
                refine takeH (i := 22) (some 188) rfl rfl (by kernel_rfl) (by kernel_rfl) (by kernel_rfl) (fun _ _ _ h => h) (by rfl) (fun w hSw => by (try dsimp only at hSw); go_simp; try rfl) hHeld ?_
                go_frame
                refine takeH (i := 23) (some 189) rfl rfl (by kernel_rfl) (by kernel_rfl) (by kernel_rfl) (fun _ _ _ h => h) (by rfl) (fun w hSw => by (try dsimp only at hSw); (subst hSw; go_simp; try rfl)) hHeld ?_
                go_frame
                refine wpAnyH_ready (rs := [19]) (by kernel_rfl) (by simp) (AllReadyH.cons rfl (fun K hK => ?_) AllReadyH.nil)
                go_simp
                refine (ptaken_any _ _ _ p1).mono ?_
                rintro e Z ⟨rfl, hZ⟩
                subst Z
                show K _ _
                refine hK.out _ _ rfl (fun hHeld => ?_)
                clear hK K
                try go_frame
                refine takeH (i := 24) (some 190) rfl rfl (by kernel_rfl) (by kernel_rfl) (by kernel_rfl) (fun _ _ _ h => h) (by rfl) (fun w hSw => by (try dsimp only at hSw); (refine (?_ : _ = Result.ok (Next.value (.bool false)) _); go_simp; try rfl)) hHeld ?_
                go_frame
                refine takeH (i := 25) (some 191) rfl rfl (by kernel_rfl) (by kernel_rfl) (by kernel_rfl) (fun _ _ _ h => h) (by rfl) (fun w hSw => by (try dsimp only at hSw); go_simp; try rfl) hHeld ?_
                go_frame
                refine wpAnyH_done (by kernel_rfl) ?_ _
                go_wp2_with fail
                exact ⟨⟨k + 1, v5, u7, S, by omega, rfl, P8, R8, hs7, bb8⟩, by simp only [intOf]; omega⟩
          · have k1' : (kd == 1) = false := by simpa using k1
            by_cases k2 : kd = 2
            · subst k2
              by_cases hin : 0 ≤ nn ∧ nn < (S.l.length : Int)
              · obtain ⟨i, rfl⟩ : ∃ i : Nat, nn = (i : Int) := ⟨nn.toNat, by omega⟩
                have hil : i < S.l.length := by omega
                obtain ⟨m, hm'⟩ : ∃ m, S.l[i]? = some m := ⟨S.l[i], List.getElem?_eq_getElem hil⟩
                as_aux_lemma =>
                  go_upto_region 35 with (go_at_call 17; refine (mtake_yes _ _ i _ _ m _ R6 hmax hm').mono ?_; rintro e W7 ⟨rfl, u7, R7, m7⟩)
                  obtain ⟨h7, hs7⟩ := mvR2 h6 R6 hs5 m7
                  have b7 := bX.trans (R6.below m7)
                  have hO7 := hO.kin (R6.kin m7) (by decide)
                  have o0 := hO7.at (i := 0) rfl
                  have o2 := hO7.at (i := 2) rfl
                  clear m7 h6 R6 bX hO o1
                  go_upto_region 44 with (go_at_call 19; refine (drop_yes _ _ i _ _ _ h7 hil).mono ?_; rintro e W8 ⟨rfl, v8, h8, m8⟩)
                  obtain ⟨R8, hs8⟩ := mvP2 h7 R7 hs7 m8
                  have b8 := b7.trans (h7.below m8)
                  clear m8 h7 R7 b7 hO7 o0 o2
                  have c1 : W8.cell? ⟨r, 1, none⟩ = some (.int .i64 S.lost) := R8.blk.at (i := 1) rfl
                  have f1 := R8.blk.frozen 1
                  go_upto_region 46 with fail
                  have he : W8.setCell ⟨r, 1, none⟩ (.int .i64 (wrap64 (S.lost + 1))) = W8.setCell ⟨r, 1, none⟩ (.int .i64 (inc S.lost)) := rfl
                  rw [he]
                  have k9 := chg_set W8 r 1 (.int .i64 (inc S.lost))
                  have R9 := R8.chg (S' := ⟨S.l.eraseIdx i, inc S.lost, S.taken⟩) (R8.blk.set 1 (.int .i64 (inc S.lost))) k9 rfl
                  obtain ⟨h9, hs9⟩ := mvR2 h8 R8 hs8 (mv_chg u7 k9)
                  have b9 := b8.trans (R8.below (mv_chg u7 k9))
                  clear he k9 R8 h8 b8 c1 f1 hs8
                  generalize W8.setCell ⟨r, 1, none⟩ (.int .i64 (inc S.lost)) = W9 at *
                  obtain ⟨S9, hS9⟩ : ∃ S9 : PS, S9 = ⟨S.l.eraseIdx i, inc S.lost, S.taken⟩ := ⟨_, rfl⟩
                  rw [← hS9] at h9 R9
                  clear hS9
                  obtain ⟨qv, cv, ev, -⟩ := h9.form
                  obtain ⟨qu, cu, eu, -⟩ := R9.form
                  refine wp_region_held_drew (S := fun w' => w' = W9.drew) (by kernel_rfl) rfl (fun hHeld => ?_)
                  have bd : Below W9.heap.size W9 W9.drew := (Below.refl _ _).drew
                  have P8 := h9.keep bd
                  have R8 := R9.keep bd
                  have bb8 := ab_trans b9 bd
                  have p0 := P8.tri.c0
                  have p1 := P8.tri.c1
                  have p2 : W9.drew.cell? ⟨V2.heap.size, 2, none⟩ = some (.slice qv S9.l.length cv) := by rw [← ev]; exact P8.tri.c2
                  have r0 : W9.drew.cell? ⟨r, 0, none⟩ = some (.slice qu S9.l.length cu) := by rw [← eu]; exact R8.blk.at (i := 0) rfl
                  have r1 : W9.drew.cell? ⟨r, 1, none⟩ = some (.int .i64 S9.lost) := R8.blk.at (i := 1) rfl
                  have r2 : W9.drew.cell? ⟨r, 2, none⟩ = some (.int .i64 S9.taken) := R8.blk.at (i := 2) rfl
                  clear bd h9 R9 b9 ev eu
                  generalize W9.drew = Y8 at *
                  refine takeH (i := 0) (some 166) rfl rfl (by kernel_rfl) (by kernel_rfl) (by kernel_rfl) (fun _ _ _ h => h) (by rfl) (fun w hSw => by (try dsimp only at hSw); go_simp; try rfl) hHeld ?_
                  go_frame
                  refine takeH (i := 2) (some 168) rfl rfl (by kernel_rfl) (by kernel_rfl) (by kernel_rfl) (fun _ _ _ h => h) (by rfl) (fun w hSw => by (try dsimp only at hSw); go_simp; try rfl) hHeld ?_
                  go_frame
                  refine takeH (i := 3) (some 169) rfl rfl (by kernel_rfl) (by kernel_rfl) (by kernel_rfl) (fun _ _ _ h => h) (by rfl) (fun w hSw => by (try dsimp only at hSw); go_simp; try rfl) hHeld ?_
                  go_frame
                  refine takeH (i := 4) (some 170) rfl rfl (by kernel_rfl) (by kernel_rfl) (by kernel_rfl) (fun _ _ _ h => h) (by rfl) (fun w hSw => by (try dsimp only at hSw); go_simp; try rfl) hHeld ?_
                  go_frame
                  refine takeH (i := 5) (some 171) rfl rfl (by kernel_rfl) (by kernel_rfl) (by kernel_rfl) (fun _ _ _ h => h) (by rfl) (fun w hSw => by (try dsimp only at hSw); (subst hSw; go_simp; try rfl)) hHeld ?_
                  go_frame
                  refine takeH (i := 6) (some 172) rfl rfl (by kernel_rfl) (by kernel_rfl) (by kernel_rfl) (fun _ _ _ h => h) (by rfl) (fun w hSw => by (try dsimp only at hSw); go_simp; try rfl) hHeld ?_
                  go_frame
                  refine wpAnyH_ready (rs := [1]) (by kernel_rfl) (by simp) (AllReadyH.cons rfl (fun K hK => ?_) AllReadyH.nil)
                  go_simp
                  refine (plen_any _ _ _ _ _ p2).mono ?_
                  rintro e Z ⟨rfl, hZ⟩
                  subst Z
                  show K _ _
                  refine hK.out _ _ rfl (fun hHeld => ?_)
                  clear hK K
                  try go_frame
                  refine takeH (i := 7) (some 173) rfl rfl (by kernel_rfl) (by kernel_rfl) (by kernel_rfl) (fun _ _ _ h => h) (by rfl) (fun w hSw => by (try dsimp only at hSw); (refine (?_ : _ = Result.ok (Next.value (.bool false)) _); go_simp; try rfl)) hHeld ?_
                  go_frame
                  refine takeH (i := 8) (some 174) rfl rfl (by kernel_rfl) (by kernel_rfl) (by kernel_rfl) (fun _ _ _ h => h) (by rfl) (fun w hSw => by (try dsimp only at hSw); go_simp; try rfl) hHeld ?_
                  go_frame
                  refine takeH (i := 9) (some 175) rfl rfl (by kernel_rfl) (by kernel_rfl) (by kernel_rfl) (fun _ _ _ h => h) (by rfl) (fun w hSw => by (try dsimp only at hSw); go_simp; try rfl) hHeld ?_
                  go_frame
                  refine takeH (i := 11) (some 177) rfl rfl (by kernel_rfl) (by kernel_rfl) (by kernel_rfl) (fun _ _ _ h => h) (by rfl) (fun w hSw => by (try dsimp only at hSw); go_simp; try rfl) hHeld ?_
                  go_frame
                  refine takeH (i := 12) (some 178) rfl rfl (by kernel_rfl) (by kernel_rfl) (by kernel_rfl) (fun _ _ _ h => h) (by rfl) (fun w hSw => by (try dsimp only at hSw); go_simp; try rfl) hHeld ?_
                  go_frame
                  refine takeH (i := 13) (some 179) rfl rfl (by kernel_rfl) (by kernel_rfl) (by kernel_rfl) (fun _ _ _ h => h) (by rfl) (fun w hSw => by (try dsimp only at hSw); go_simp; try rfl) hHeld ?_
                  go_frame
                  refine takeH (i := 14) (some 180) rfl rfl (by kernel_rfl) (by kernel_rfl) (by kernel_rfl) (fun _ _ _ h => h) (by rfl) (fun w hSw => by (try dsimp only at hSw); (subst hSw; go_simp; try rfl)) hHeld ?_
                  go_frame
                  refine wpAnyH_ready (rs := [10]) (by kernel_rfl) (by simp) (AllReadyH.cons rfl (fun K hK => ?_) AllReadyH.nil)
                  go_simp
                  refine (plost_any _ _ _ p0).mono ?_
                  rintro e Z ⟨rfl, hZ⟩
                  subst Z
                  show K _ _
                  refine hK.out _ _ rfl (fun hHeld => ?_)
                  clear hK K
                  try go_frame
                  refine takeH (i := 15) (some 181) rfl rfl (by kernel_rfl) (by kernel_rfl) (by kernel_rfl) (fun _ _ _ h => h) (by rfl) (fun w hSw => by (try dsimp only at hSw); (refine (?_ : _ = Result.ok (Next.value (.bool false)) _); go_simp; try rfl)) hHeld ?_
                  go_frame
                  refine takeH (i := 16) (some 182) rfl rfl (by kernel_rfl) (by kernel_rfl) (by kernel_rfl) (fun _ _ _ h => h) (by rfl) (fun w hSw => by (try dsimp only at hSw); go_simp; try rfl) hHeld ?_
                  go_frame
                  refine takeH (i := 17) (some 183) rfl rfl (by kernel_rfl) (by kernel_rfl) (by kernel_rfl) (fun _ _ _ h => h) (by rfl) (fun w hSw => by (try dsimp only at hSw); go_simp; try rfl) hHeld ?_
                  go_frame
                  refine takeH (i := 18) (some 184) rfl rfl (by kernel_rfl) (by kernel_rfl) (by kernel_rfl) (fun _ _ _ h => h) (by rfl) (fun w hSw => by (try dsimp only at hSw); go_simp; try rfl) hHeld ?_
                  go_frame
                  refine takeH (i := 20) (some 186) rfl rfl (by kernel_rfl) (by kernel_rfl) (by kernel_rfl) (fun _ _ _ h => h) (by rfl) (fun w hSw => by (try dsimp only at hSw); go_simp; try rfl) hHeld ?_
                  go_frame
                  refine takeH (i := 21) (some 187) rfl rfl (by kernel_rfl) (by kernel_rfl) (by kernel_rfl) (fun _ _ _ h => h) (by rfl) (fun w hSw => by (try dsimp only at hSw); go_simp; try rfl) hHeld ?_
                  go_frame
                  refine takeH (i := 22) (some 188) rfl rfl (by kernel_rfl) (by kernel_rfl) (by kernel_rfl) (fun _ _ _ h => h) (by rfl) (fun w hSw => by (try dsimp only at hSw); go_simp; try rfl) hHeld ?_
                  go_frame
                  refine takeH (i := 23) (some 189) rfl rfl (by kernel_rfl) (by kernel_rfl) (by kernel_rfl) (fun _ _ _ h => h) (by rfl) (fun w hSw => by (try dsimp only at hSw); (subst hSw; go_simp; try rfl)) hHeld ?_
                  go_frame
                  refine wpAnyH_ready (rs := [19]) (by kernel_rfl) (by simp) (AllReadyH.cons rfl (fun K hK => ?_) AllReadyH.nil)
                  go_simp
                  refine (ptaken_any _ _ _ p1).mono ?_
                  rintro e Z ⟨rfl, hZ⟩
                  subst Z
                  show K _ _
                  refine hK.out _ _ rfl (fun hHeld => ?_)
                  clear hK K
                  try go_frame
                  refine takeH (i := 24) (some 190) rfl rfl (by kernel_rfl) (by kernel_rfl) (by kernel_rfl) (fun _ _ _ h => h) (by rfl) (fun w hSw => by (try dsimp only at hSw); (refine (?_ : _ = Result.ok (Next.value (.bool false)) _); go_simp; try rfl)) hHeld ?_
                  go_frame
                  refine takeH (i := 25) (some 191) rfl rfl (by kernel_rfl) (by kernel_rfl) (by kernel_rfl) (fun _ _ _ h => h) (by rfl) (fun w hSw => by (try dsimp only at hSw); go_simp; try rfl) hHeld ?_
                  go_frame
                  refine wpAnyH_done (by kernel_rfl) ?_ _
                  go_wp2_with fail
                  exact ⟨⟨k + 1, v8, u7, S9, by omega, rfl, P8, R8, hs9, bb8⟩, by simp only [intOf]; omega⟩
              · skip
                as_aux_lemma =>
                  go_upto_region 35 with (go_at_call 17; refine (mtake_no _ _ nn _ _ _ R6 hmax hin).mono ?_; rintro e W7 ⟨rfl, u7, R7, m7⟩)
                  obtain ⟨h7, hs7⟩ := mvR2 h6 R6 hs5 m7
                  have b7 := bX.trans (R6.below m7)
                  have hO7 := hO.kin (R6.kin m7) (by decide)
                  have o0 := hO7.at (i := 0) rfl
                  have o2 := hO7.at (i := 2) rfl
                  clear m7 h6 R6 bX hO o1
                  go_upto_region 46 with (go_at_call 19; refine (drop_no _ _ nn _ _ _ h7 hin).mono ?_; rintro e Y ⟨rfl, hY⟩; subst Y)
                  clear o0 o2 hO7
                  obtain ⟨qv, cv, ev, -⟩ := h7.form
                  obtain ⟨qu, cu, eu, -⟩ := R7.form
                  refine wp_region_held_drew (S := fun w' => w' = W7.drew) (by kernel_rfl) rfl (fun hHeld => ?_)
                  have bd : Below W7.heap.size W7 W7.drew := (Below.refl _ _).drew
                  have P8 := h7.keep bd
                  have R8 := R7.keep bd
                  have bb8 := ab_trans b7 bd
                  have p0 := P8.tri.c0
                  have p1 := P8.tri.c1
                  have p2 : W7.drew.cell? ⟨V2.heap.size, 2, none⟩ = some (.slice qv S.l.length cv) := by rw [← ev]; exact P8.tri.c2
                  have r0 : W7.drew.cell? ⟨r, 0, none⟩ = some (.slice qu S.l.length cu) := by rw [← eu]; exact R8.blk.at (i := 0) rfl
                  have r1 : W7.drew.cell? ⟨r, 1, none⟩ = some (.int .i64 S.lost) := R8.blk.at (i := 1) rfl
                  have r2 : W7.drew.cell? ⟨r, 2, none⟩ = some (.int .i64 S.taken) := R8.blk.at (i := 2) rfl
                  clear bd h7 R7 b7 ev eu
                  generalize W7.drew = Y8 at *
                  refine takeH (i := 0) (some 166) rfl rfl (by kernel_rfl) (by kernel_rfl) (by kernel_rfl) (fun _ _ _ h => h) (by rfl) (fun w hSw => by (try dsimp only at hSw); go_simp; try rfl) hHeld ?_
                  go_frame
                  refine takeH (i := 2) (some 168) rfl rfl (by kernel_rfl) (by kernel_rfl) (by kernel_rfl) (fun _ _ _ h => h) (by rfl) (fun w hSw => by (try dsimp only at hSw); go_simp; try rfl) hHeld ?_
                  go_frame
                  refine takeH (i := 3) (some 169) rfl rfl (by kernel_rfl) (by kernel_rfl) (by kernel_rfl) (fun _ _ _ h => h) (by rfl) (fun w hSw => by (try dsimp only at hSw); go_simp; try rfl) hHeld ?_
                  go_frame
                  refine takeH (i := 4) (some 170) rfl rfl (by kernel_rfl) (by kernel_rfl) (by kernel_rfl) (fun _ _ _ h => h) (by rfl) (fun w hSw => by (try dsimp only at hSw); go_simp; try rfl) hHeld ?_
                  go_frame
                  refine takeH (i := 5) (some 171) rfl rfl (by kernel_rfl) (by kernel_rfl) (by kernel_rfl) (fun _ _ _ h => h) (by rfl) (fun w hSw => by (try dsimp only at hSw); (subst hSw; go_simp; try rfl)) hHeld ?_
                  go_frame
                  refine takeH (i := 6) (some 172) rfl rfl (by kernel_rfl) (by kernel_rfl) (by kernel_rfl) (fun _ _ _ h => h) (by rfl) (fun w hSw => by (try dsimp only at hSw); go_simp; try rfl) hHeld ?_
                  go_frame
                  refine wpAnyH_ready (rs := [1]) (by kernel_rfl) (by simp) (AllReadyH.cons rfl (fun K hK => ?_) AllReadyH.nil)
                  go_simp
                  refine (plen_any _ _ _ _ _ p2).mono ?_
                  rintro e Z ⟨rfl, hZ⟩
                  subst Z
                  show K _ _
                  refine hK.out _ _ rfl (fun hHeld => ?_)
                  clear hK K
                  try go_frame
                  refine takeH (i := 7) (some 173) rfl rfl (by kernel_rfl) (by kernel_rfl) (by kernel_rfl) (fun _ _ _ h => h) (by rfl) (fun w hSw => by (try dsimp only at hSw); (refine (?_ : _ = Result.ok (Next.value (.bool false)) _); go_simp; try rfl)) hHeld ?_
                  go_frame
                  refine takeH (i := 8) (some 174) rfl rfl (by kernel_rfl) (by kernel_rfl) (by kernel_rfl) (fun _ _ _ h => h) (by rfl) (fun w hSw => by (try dsimp only at hSw); go_simp; try rfl) hHeld ?_
                  go_frame
                  refine takeH (i := 9) (some 175) rfl rfl (by kernel_rfl) (by kernel_rfl) (by kernel_rfl) (fun _ _ _ h => h) (by rfl) (fun w hSw => by (try dsimp only at hSw); go_simp; try rfl) hHeld ?_
                  go_frame
                  refine takeH (i := 11) (some 177) rfl rfl (by kernel_rfl) (by kernel_rfl) (by kernel_rfl) (fun _ _ _ h => h) (by rfl) (fun w hSw => by (try dsimp only at hSw); go_simp; try rfl) hHeld ?_
                  go_frame
                  refine takeH (i := 12) (some 178) rfl rfl (by kernel_rfl) (by kernel_rfl) (by kernel_rfl) (fun _ _ _ h => h) (by rfl) (fun w hSw => by (try dsimp only at hSw); go_simp; try rfl) hHeld ?_
                  go_frame
                  refine takeH (i := 13) (some 179) rfl rfl (by kernel_rfl) (by kernel_rfl) (by kernel_rfl) (fun _ _ _ h => h) (by rfl) (fun w hSw => by (try dsimp only at hSw); go_simp; try rfl) hHeld ?_
                  go_frame
                  refine takeH (i := 14) (some 180) rfl rfl (by kernel_rfl) (by kernel_rfl) (by kernel_rfl) (fun _ _ _ h => h) (by rfl) (fun w hSw => by (try dsimp only at hSw); (subst hSw; go_simp; try rfl)) hHeld ?_
                  go_frame
                  refine wpAnyH_ready (rs := [10]) (by kernel_rfl) (by simp) (AllReadyH.cons rfl (fun K hK => ?_) AllReadyH.nil)
                  go_simp
                  refine (plost_any _ _ _ p0).mono ?_
                  rintro e Z ⟨rfl, hZ⟩
                  subst Z
                  show K _ _
                  refine hK.out _ _ rfl (fun hHeld => ?_)
                  clear hK K
                  try go_frame
                  refine takeH (i := 15) (some 181) rfl rfl (by kernel_rfl) (by kernel_rfl) (by kernel_rfl) (fun _ _ _ h => h) (by rfl) (fun w hSw => by (try dsimp only at hSw); (refine (?_ : _ = Result.ok (Next.value (.bool false)) _); go_simp; try rfl)) hHeld ?_
                  go_frame
                  refine takeH (i := 16) (some 182) rfl rfl (by kernel_rfl) (by kernel_rfl) (by kernel_rfl) (fun _ _ _ h => h) (by rfl) (fun w hSw => by (try dsimp only at hSw); go_simp; try rfl) hHeld ?_
                  go_frame
                  refine takeH (i := 17) (some 183) rfl rfl (by kernel_rfl) (by kernel_rfl) (by kernel_rfl) (fun _ _ _ h => h) (by rfl) (fun w hSw => by (try dsimp only at hSw); go_simp; try rfl) hHeld ?_
                  go_frame
                  refine takeH (i := 18) (some 184) rfl rfl (by kernel_rfl) (by kernel_rfl) (by kernel_rfl) (fun _ _ _ h => h) (by rfl) (fun w hSw => by (try dsimp only at hSw); go_simp; try rfl) hHeld ?_
                  go_frame
                  refine takeH (i := 20) (some 186) rfl rfl (by kernel_rfl) (by kernel_rfl) (by kernel_rfl) (fun _ _ _ h => h) (by rfl) (fun w hSw => by (try dsimp only at hSw); go_simp; try rfl) hHeld ?_
                  go_frame
                  refine takeH (i := 21) (some 187) rfl rfl (by kernel_rfl) (by kernel_rfl) (by kernel_rfl) (fun _ _ _ h => h) (by rfl) (fun w hSw => by (try dsimp only at hSw); go_simp; try rfl) hHeld ?_
                  go_frame
                  refine takeH (i := 22) (some 188) rfl rfl (by kernel_rfl) (by kernel_rfl) (by kernel_rfl) (fun _ _ _ h => h) (by rfl) (fun w hSw => by (try dsimp only at hSw); go_simp; try rfl) hHeld ?_
                  go_frame
                  refine takeH (i := 23) (some 189) rfl rfl (by kernel_rfl) (by kernel_rfl) (by kernel_rfl) (fun _ _ _ h => h) (by rfl) (fun w hSw => by (try dsimp only at hSw); (subst hSw; go_simp; try rfl)) hHeld ?_
                  go_frame
                  refine wpAnyH_ready (rs := [19]) (by kernel_rfl) (by simp) (AllReadyH.cons rfl (fun K hK => ?_) AllReadyH.nil)
                  go_simp
                  refine (ptaken_any _ _ _ p1).mono ?_
                  rintro e Z ⟨rfl, hZ⟩
                  subst Z
                  show K _ _
                  refine hK.out _ _ rfl (fun hHeld => ?_)
                  clear hK K
                  try go_frame
                  refine takeH (i := 24) (some 190) rfl rfl (by kernel_rfl) (by kernel_rfl) (by kernel_rfl) (fun _ _ _ h => h) (by rfl) (fun w hSw => by (try dsimp only at hSw); (refine (?_ : _ = Result.ok (Next.value (.bool false)) _); go_simp; try rfl)) hHeld ?_
                  go_frame
                  refine takeH (i := 25) (some 191) rfl rfl (by kernel_rfl) (by kernel_rfl) (by kernel_rfl) (fun _ _ _ h => h) (by rfl) (fun w hSw => by (try dsimp only at hSw); go_simp; try rfl) hHeld ?_
                  go_frame
                  refine wpAnyH_done (by kernel_rfl) ?_ _
                  go_wp2_with fail
                  exact ⟨⟨k + 1, v5, u7, S, by omega, rfl, P8, R8, hs7, bb8⟩, by simp only [intOf]; omega⟩
            · have k2' : (kd == 2) = false := by simpa using k2
              by_cases hin : 0 ≤ nn ∧ nn < (S.l.length : Int)
              · obtain ⟨i, rfl⟩ : ∃ i : Nat, nn = (i : Int) := ⟨nn.toNat, by omega⟩
                have hil : i < S.l.length := by omega
                have hi0 : (0 : Int) ≤ (i : Int) := by omega
                have hii2 : (i : Int) < (S.l.length : Int) := by omega
                obtain ⟨m, hm'⟩ : ∃ m, S.l[i]? = some m := ⟨S.l[i], List.getElem?_eq_getElem hil⟩
                as_aux_lemma =>
                  obtain ⟨gu6, cu6, eu6, hcu6, hmu6, hgu6, cellu⟩ := R6.at hm'
                  go_upto_region 10 with fail
                  refine wp_region_held_drew (S := fun w' => w' = X.drew) (by kernel_rfl) rfl (fun hHeld => ?_)
                  have bd : Below X.heap.size X X.drew := (Below.refl _ _).drew
                  have h7 := h6.keep bd
                  have R7 := R6.keep bd
                  have b7 := ab_trans bX bd
                  have hO7 := hO.keep bd
                  have c2 := hO7.at (i := 2) rfl
                  have r0 : X.drew.cell? ⟨r, 0, none⟩ = some (.slice (some ⟨gu6, 0, none⟩) S.l.length cu6) := by rw [← eu6]; exact R7.blk.at (i := 0) rfl
                  have cellv := keep_cell bd cellu hgu6
                  have hgv := Nat.lt_of_lt_of_le hgu6 bd.size
                  clear h6 R6 bX hO o0 o1 o2 bd cellu hgu6
                  generalize X.drew = V7 at *
                  refine takeH (i := 0) (some 36) rfl rfl (by kernel_rfl) (by kernel_rfl) (by kernel_rfl) (fun _ _ _ h => h) (by rfl) (fun w hSw => by (try dsimp only at hSw); go_simp; try rfl) hHeld ?_
                  go_frame
                  refine takeH (i := 1) (some 37) rfl rfl (by kernel_rfl) (by kernel_rfl) (by kernel_rfl) (fun _ _ _ h => h) (by rfl) (fun w hSw => by (try dsimp only at hSw); (subst hSw; go_simp; try rfl)) hHeld ?_
                  go_frame
                  refine takeH (i := 2) (some 38) rfl rfl (by kernel_rfl) (by kernel_rfl) (by kernel_rfl) (fun _ _ _ h => h) (by rfl) (fun w hSw => by (try dsimp only at hSw); (refine (?_ : _ = Result.ok (Next.value (.bool true)) _); go_simp; try rfl)) hHeld ?_
                  go_frame
                  refine takeH (i := 3) (some 39) rfl rfl (by kernel_rfl) (by kernel_rfl) (by kernel_rfl) (fun _ _ _ h => h) (by rfl) (fun w hSw => by (try dsimp only at hSw); go_simp; try rfl) hHeld ?_
                  go_frame
                  refine takeH (i := 4) (some 40) rfl rfl (by kernel_rfl) (by kernel_rfl) (by kernel_rfl) (fun _ _ _ h => h) (by rfl) (fun w hSw => by (try dsimp only at hSw); go_simp; try rfl) hHeld ?_
                  go_frame
                  refine takeH (i := 5) (some 41) rfl rfl (by kernel_rfl) (by kernel_rfl) (by kernel_rfl) (fun _ _ _ h => h) (by rfl) (fun w hSw => by (try dsimp only at hSw); (subst hSw; go_simp; try rfl)) hHeld ?_
                  go_frame
                  refine takeH (i := 6) (some 42) rfl rfl (by kernel_rfl) (by kernel_rfl) (by kernel_rfl) (fun _ _ _ h => h) (by rfl) (fun w hSw => by (try dsimp only at hSw); go_simp; try rfl) hHeld ?_
                  go_frame
                  refine takeH (i := 7) (some 43) rfl rfl (by kernel_rfl) (by kernel_rfl) (by kernel_rfl) (fun _ _ _ h => h) (by rfl) (fun w hSw => by (try dsimp only at hSw); go_simp; try rfl) hHeld ?_
                  go_frame
                  refine takeH (i := 8) (some 44) rfl rfl (by kernel_rfl) (by kernel_rfl) (by kernel_rfl) (fun _ _ _ h => h) (by rfl) (fun w hSw => by (try dsimp only at hSw); go_simp; try rfl) hHeld ?_
                  go_frame
                  refine takeH (i := 9) (some 45) rfl rfl (by kernel_rfl) (by kernel_rfl) (by kernel_rfl) (fun _ _ _ h => h) (by rfl) (fun w hSw => by (try dsimp only at hSw); (subst hSw; go_simp; try rfl)) hHeld ?_
                  go_frame
                  refine takeH (i := 10) (some 46) rfl rfl (by kernel_rfl) (by kernel_rfl) (by kernel_rfl) (fun _ _ _ h => h) (by rfl) (fun w hSw => by (try dsimp only at hSw); go_simp; try rfl) hHeld ?_
                  go_frame
                  refine takeH (i := 11) (some 47) rfl rfl (by kernel_rfl) (by kernel_rfl) (by kernel_rfl) (fun _ _ _ h => h) (by rfl) (fun w hSw => by (try dsimp only at hSw); (refine (?_ : _ = Result.ok (Next.value (.bool true)) _); go_simp; first | rfl | omega | (try rfl))) hHeld ?_
                  go_frame
                  refine takeH (i := 12) (some 48) rfl rfl (by kernel_rfl) (by kernel_rfl) (by kernel_rfl) (fun _ _ _ h => h) (by rfl) (fun w hSw => by (try dsimp only at hSw); go_simp; try rfl) hHeld ?_
                  go_frame
                  refine takeH (i := 13) (some 16) rfl rfl (by kernel_rfl) (by kernel_rfl) (by kernel_rfl) (fun _ _ _ h => h) (by rfl) (fun w hSw => by (try dsimp only at hSw); go_simp; try rfl) hHeld ?_
                  go_frame
                  refine wpAnyH_done (by kernel_rfl) ?_ _
                  go_upto_region 12 with fail
                  refine region_L 9 (S := fun w' => w' = V7.drew) (by kernel_rfl) rfl (fun hHeld => ?_)
                  have bd : Below V7.heap.size V7 V7.drew := (Below.refl _ _).drew
                  have h8 := h7.keep bd
                  have R8 := R7.keep bd
                  have b8 := ab_trans b7 bd
                  have hO8 := hO7.keep bd
                  have d2 := hO8.at (i := 2) rfl
                  have s0 := keep_cell bd r0 R7.blk.lt
                  have cellw := keep_cell bd cellv hgv
                  clear h7 R7 b7 hO7 c2 r0 cellv hgv bd
                  generalize V7.drew = V8 at *
                  refine takeP (i := 0) (some 50) (by rfl) rfl rfl (by kernel_rfl) (by kernel_rfl) (by kernel_rfl) (fun _ _ _ h => h) (by rfl) (fun w => by go_simp; try rfl) hHeld ?_
                  go_frame
                  refine takeP (i := 1) (some 51) (by rfl) rfl rfl (by kernel_rfl) (by kernel_rfl) (by kernel_rfl) (fun _ _ _ h => h) (by rfl) (fun w => by go_simp; try rfl) hHeld ?_
                  go_frame
                  refine takeP (i := 2) (some 52) (by rfl) rfl rfl (by kernel_rfl) (by kernel_rfl) (by kernel_rfl) (fun _ _ _ h => h) (by rfl) (fun w => by go_simp; try rfl) hHeld ?_
                  go_frame
                  refine takeP (i := 3) (some 53) (by rfl) rfl rfl (by kernel_rfl) (by kernel_rfl) (by kernel_rfl) (fun _ _ _ h => h) (by rfl) (fun w => by go_simp; try rfl) hHeld ?_
                  go_frame
                  refine takeP (i := 5) (some 55) (by rfl) rfl rfl (by kernel_rfl) (by kernel_rfl) (by kernel_rfl) (fun _ _ _ h => h) (by rfl) (fun w => by go_simp; try rfl) hHeld ?_
                  go_frame
                  refine takeL (i := 4) [7, 8, 9] (some 54) (by rfl) rfl rfl (by kernel_rfl) (by kernel_rfl) (by kernel_rfl) (by kernel_rfl) (fun _ _ _ h => h) (by rfl) (fun w hSw => by (try dsimp only at hSw); (subst hSw; go_simp; try rfl)) hHeld ?_
                  go_frame
                  refine takeL (i := 6) [7, 8, 9] (some 56) (by rfl) rfl rfl (by kernel_rfl) (by kernel_rfl) (by kernel_rfl) (by kernel_rfl) (fun _ _ _ h => h) (by rfl) (fun w hSw => by (try dsimp only at hSw); (subst hSw; go_simp; try rfl)) hHeld ?_
                  go_frame
                  refine takeP (i := 7) (some 57) (by rfl) rfl rfl (by kernel_rfl) (by kernel_rfl) (by kernel_rfl) (fun _ _ _ h => h) (by rfl) (fun w => by go_simp; try rfl) hHeld ?_
                  go_frame
                  refine takeL (i := 8) [9] (some 58) (by rfl) rfl rfl (by kernel_rfl) (by kernel_rfl) (by kernel_rfl) (by kernel_rfl) (fun _ _ _ h => h) (by rfl) (fun w hSw => by (try dsimp only at hSw); (subst hSw; go_simp; try rfl)) hHeld ?_
                  go_frame
                  refine anyL_ready (rs := [9]) (by kernel_rfl) (by simp) (AllL.last rfl (by kernel_rfl) (fun K hK => ?_))
                  go_simp
                  refine (rsend_any _ _ _ _ m _ R8 hmax).mono ?_
                  rintro e W9 ⟨rfl, u9, R9, m9⟩
                  show K _ _
                  refine hK.out _ _ ?_
                  clear hK K
                  refine anyL_done (by kernel_rfl) ?_
                  obtain ⟨h9, hs9⟩ := mvR2 h8 R8 hs5 m9
                  have b9 := b8.trans (R8.below m9)
                  have hO9 := hO8.kin (R8.kin m9) (by decide)
                  have c2 := hO9.at (i := 2) rfl
                  clear m9 h8 R8 b8 hO8 d2 s0 cellw
                  go_upto_region 46 with (go_at_call 20; refine (copy_yes _ _ i _ _ m _ h9 hm').mono ?_; rintro e W10 ⟨rfl, v10, h10, m10⟩)
                  obtain ⟨R10, hs10⟩ := mvP2 h9 R9 hs9 m10
                  have b10 := b9.trans (h9.below m10)
                  clear m10 h9 R9 b9 hO9 c2
                  obtain ⟨S9, hS9⟩ : ∃ S9 : PS, S9 = put1 S m := ⟨_, rfl⟩
                  rw [← hS9] at h10 R10
                  clear hS9
                  obtain ⟨qv, cv, ev, -⟩ := h10.form
                  obtain ⟨qu, cu, eu, -⟩ := R10.form
                  refine wp_region_held_drew (S := fun w' => w' = W10.drew) (by kernel_rfl) rfl (fun hHeld => ?_)
                  have bd : Below W10.heap.size W10 W10.drew := (Below.refl _ _).drew
                  have P8 := h10.keep bd
                  have R8 := R10.keep bd
                  have bb8 := ab_trans b10 bd
                  have p0 := P8.tri.c0
                  have p1 := P8.tri.c1
                  have p2 : W10.drew.cell? ⟨V2.heap.size, 2, none⟩ = some (.slice qv S9.l.length cv) := by rw [← ev]; exact P8.tri.c2
                  have r0 : W10.drew.cell? ⟨r, 0, none⟩ = some (.slice qu S9.l.length cu) := by rw [← eu]; exact R8.blk.at (i := 0) rfl
                  have r1 : W10.drew.cell? ⟨r, 1, none⟩ = some (.int .i64 S9.lost) := R8.blk.at (i := 1) rfl
                  have r2 : W10.drew.cell? ⟨r, 2, none⟩ = some (.int .i64 S9.taken) := R8.blk.at (i := 2) rfl
                  clear bd h10 R10 b10 ev eu
                  generalize W10.drew = Y8 at *
                  refine takeH (i := 0) (some 166) rfl rfl (by kernel_rfl) (by kernel_rfl) (by kernel_rfl) (fun _ _ _ h => h) (by rfl) (fun w hSw => by (try dsimp only at hSw); go_simp; try rfl) hHeld ?_
                  go_frame
                  refine takeH (i := 2) (some 168) rfl rfl (by kernel_rfl) (by kernel_rfl) (by kernel_rfl) (fun _ _ _ h => h) (by rfl) (fun w hSw => by (try dsimp only at hSw); go_simp; try rfl) hHeld ?_
                  go_frame
                  refine takeH (i := 3) (some 169) rfl rfl (by kernel_rfl) (by kernel_rfl) (by kernel_rfl) (fun _ _ _ h => h) (by rfl) (fun w hSw => by (try dsimp only at hSw); go_simp; try rfl) hHeld ?_
                  go_frame
                  refine takeH (i := 4) (some 170) rfl rfl (by kernel_rfl) (by kernel_rfl) (by kernel_rfl) (fun _ _ _ h => h) (by rfl) (fun w hSw => by (try dsimp only at hSw); go_simp; try rfl) hHeld ?_
                  go_frame
                  refine takeH (i := 5) (some 171) rfl rfl (by kernel_rfl) (by kernel_rfl) (by kernel_rfl) (fun _ _ _ h => h) (by rfl) (fun w hSw => by (try dsimp only at hSw); (subst hSw; go_simp; try rfl)) hHeld ?_
                  go_frame
                  refine takeH (i := 6) (some 172) rfl rfl (by kernel_rfl) (by kernel_rfl) (by kernel_rfl) (fun _ _ _ h => h) (by rfl) (fun w hSw => by (try dsimp only at hSw); go_simp; try rfl) hHeld ?_
                  go_frame
                  refine wpAnyH_ready (rs := [1]) (by kernel_rfl) (by simp) (AllReadyH.cons rfl (fun K hK => ?_) AllReadyH.nil)
                  go_simp
                  refine (plen_any _ _ _ _ _ p2).mono ?_
                  rintro e Z ⟨rfl, hZ⟩
                  subst Z
                  show K _ _
                  refine hK.out _ _ rfl (fun hHeld => ?_)
                  clear hK K
                  try go_frame
                  refine takeH (i := 7) (some 173) rfl rfl (by kernel_rfl) (by kernel_rfl) (by kernel_rfl) (fun _ _ _ h => h) (by rfl) (fun w hSw => by (try dsimp only at hSw); (refine (?_ : _ = Result.ok (Next.value (.bool false)) _); go_simp; try rfl)) hHeld ?_
                  go_frame
                  refine takeH (i := 8) (some 174) rfl rfl (by kernel_rfl) (by kernel_rfl) (by kernel_rfl) (fun _ _ _ h => h) (by rfl) (fun w hSw => by (try dsimp only at hSw); go_simp; try rfl) hHeld ?_
                  go_frame
                  refine takeH (i := 9) (some 175) rfl rfl (by kernel_rfl) (by kernel_rfl) (by kernel_rfl) (fun _ _ _ h => h) (by rfl) (fun w hSw => by (try dsimp only at hSw); go_simp; try rfl) hHeld ?_
                  go_frame
                  refine takeH (i := 11) (some 177) rfl rfl (by kernel_rfl) (by kernel_rfl) (by kernel_rfl) (fun _ _ _ h => h) (by rfl) (fun w hSw => by (try dsimp only at hSw); go_simp; try rfl) hHeld ?_
                  go_frame
                  refine takeH (i := 12) (some 178) rfl rfl (by kernel_rfl) (by kernel_rfl) (by kernel_rfl) (fun _ _ _ h => h) (by rfl) (fun w hSw => by (try dsimp only at hSw); go_simp; try rfl) hHeld ?_
                  go_frame
                  refine takeH (i := 13) (some 179) rfl rfl (by kernel_rfl) (by kernel_rfl) (by kernel_rfl) (fun _ _ _ h => h) (by rfl) (fun w hSw => by (try dsimp only at hSw); go_simp; try rfl) hHeld ?_
                  go_frame
                  refine takeH (i := 14) (some 180) rfl rfl (by kernel_rfl) (by kernel_rfl) (by kernel_rfl) (fun _ _ _ h => h) (by rfl) (fun w hSw => by (try dsimp only at hSw); (subst hSw; go_simp; try rfl)) hHeld ?_
                  go_frame
                  refine wpAnyH_ready (rs := [10]) (by kernel_rfl) (by simp) (AllReadyH.cons rfl (fun K hK => ?_) AllReadyH.nil)
                  go_simp
                  refine (plost_any _ _ _ p0).mono ?_
                  rintro e Z ⟨rfl, hZ⟩
                  subst Z
                  show K _ _
                  refine hK.out _ _ rfl (fun hHeld => ?_)
                  clear hK K
                  try go_frame
                  refine takeH (i := 15) (some 181) rfl rfl (by kernel_rfl) (by kernel_rfl) (by kernel_rfl) (fun _ _ _ h => h) (by rfl) (fun w hSw => by (try dsimp only at hSw); (refine (?_ : _ = Result.ok (Next.value (.bool false)) _); go_simp; try rfl)) hHeld ?_
                  go_frame
                  refine takeH (i := 16) (some 182) rfl rfl (by kernel_rfl) (by kernel_rfl) (by kernel_rfl) (fun _ _ _ h => h) (by rfl) (fun w hSw => by (try dsimp only at hSw); go_simp; try rfl) hHeld ?_
                  go_frame
                  refine takeH (i := 17) (some 183) rfl rfl (by kernel_rfl) (by kernel_rfl) (by kernel_rfl) (fun _ _ _ h => h) (by rfl) (fun w hSw => by (try dsimp only at hSw); go_simp; try rfl) hHeld ?_
                  go_frame
                  refine takeH (i := 18) (some 184) rfl rfl (by kernel_rfl) (by kernel_rfl) (by kernel_rfl) (fun _ _ _ h => h) (by rfl) (fun w hSw => by (try dsimp only at hSw); go_simp; try rfl) hHeld ?_
                  go_frame
                  refine takeH (i := 20) (some 186) rfl rfl (by kernel_rfl) (by kernel_rfl) (by kernel_rfl) (fun _ _ _ h => h) (by rfl) (fun w hSw => by (try dsimp only at hSw); go_simp; try rfl) hHeld ?_
                  go_frame
                  refine takeH (i := 21) (some 187) rfl rfl (by kernel_rfl) (by kernel_rfl) (by kernel_rfl) (fun _ _ _ h => h) (by rfl) (fun w hSw => by (try dsimp only at hSw); go_simp; try rfl) hHeld ?_
                  go_frame
                  refine takeH (i := 22) (some 188) rfl rfl (by kernel_rfl) (by kernel_rfl) (by kernel_rfl) (fun _ _ _ h => h) (by rfl) (fun w hSw => by (try dsimp only at hSw); go_simp; try rfl) hHeld ?_
                  go_frame
                  refine takeH (i := 23) (some 189) rfl rfl (by kernel_rfl) (by kernel_rfl) (by kernel_rfl) (fun _ _ _ h => h) (by rfl) (fun w hSw => by (try dsimp only at hSw); (subst hSw; go_simp; try rfl)) hHeld ?_
                  go_frame
                  refine wpAnyH_ready (rs := [19]) (by kernel_rfl) (by simp) (AllReadyH.cons rfl (fun K hK => ?_) AllReadyH.nil)
                  go_simp
                  refine (ptaken_any _ _ _ p1).mono ?_
                  rintro e Z ⟨rfl, hZ⟩
                  subst Z
                  show K _ _
                  refine hK.out _ _ rfl (fun hHeld => ?_)
                  clear hK K
                  try go_frame
                  refine takeH (i := 24) (some 190) rfl rfl (by kernel_rfl) (by kernel_rfl) (by kernel_rfl) (fun _ _ _ h => h) (by rfl) (fun w hSw => by (try dsimp only at hSw); (refine (?_ : _ = Result.ok (Next.value (.bool false)) _); go_simp; try rfl)) hHeld ?_
                  go_frame
                  refine takeH (i := 25) (some 191) rfl rfl (by kernel_rfl) (by kernel_rfl) (by kernel_rfl) (fun _ _ _ h => h) (by rfl) (fun w hSw => by (try dsimp only at hSw); go_simp; try rfl) hHeld ?_
                  go_frame
                  refine wpAnyH_done (by kernel_rfl) ?_ _
                  go_wp2_with fail
                  exact ⟨⟨k + 1, v10, u9, S9, by omega, rfl, P8, R8, hs10, bb8⟩, by simp only [intOf]; omega⟩
              · skip
                as_aux_lemma =>
                  obtain ⟨qu6, cu6, eu6, -⟩ := R6.form
                  go_upto_region 10 with fail
                  refine wp_region_held_drew (S := fun w' => w' = X.drew) (by kernel_rfl) rfl (fun hHeld => ?_)
                  have bd : Below X.heap.size X X.drew := (Below.refl _ _).drew
                  have h7 := h6.keep bd
                  have R7 := R6.keep bd
                  have b7 := ab_trans bX bd
                  have hO7 := hO.keep bd
                  have c2 := hO7.at (i := 2) rfl
                  have r0 : X.drew.cell? ⟨r, 0, none⟩ = some (.slice qu6 S.l.length cu6) := by rw [← eu6]; exact R7.blk.at (i := 0) rfl
                  clear h6 R6 bX hO o0 o1 o2 bd eu6
                  generalize X.drew = V7 at *
                  by_cases h0 : 0 ≤ nn
                  · have hlt : ¬ nn < (S.l.length : Int) := fun h => hin ⟨h0, h⟩
                    refine takeH (i := 0) (some 36) rfl rfl (by kernel_rfl) (by kernel_rfl) (by kernel_rfl) (fun _ _ _ h => h) (by rfl) (fun w hSw => by (try dsimp only at hSw); go_simp; try rfl) hHeld ?_
                    go_frame
                    refine takeH (i := 1) (some 37) rfl rfl (by kernel_rfl) (by kernel_rfl) (by kernel_rfl) (fun _ _ _ h => h) (by rfl) (fun w hSw => by (try dsimp only at hSw); (subst hSw; go_simp; try rfl)) hHeld ?_
                    go_frame
                    refine takeH (i := 2) (some 38) rfl rfl (by kernel_rfl) (by kernel_rfl) (by kernel_rfl) (fun _ _ _ h => h) (by rfl) (fun w hSw => by (try dsimp only at hSw); (refine (?_ : _ = Result.ok (Next.value (.bool true)) _); go_simp; try rfl)) hHeld ?_
                    go_frame
                    refine takeH (i := 3) (some 39) rfl rfl (by kernel_rfl) (by kernel_rfl) (by kernel_rfl) (fun _ _ _ h => h) (by rfl) (fun w hSw => by (try dsimp only at hSw); go_simp; try rfl) hHeld ?_
                    go_frame
                    refine takeH (i := 4) (some 40) rfl rfl (by kernel_rfl) (by kernel_rfl) (by kernel_rfl) (fun _ _ _ h => h) (by rfl) (fun w hSw => by (try dsimp only at hSw); go_simp; try rfl) hHeld ?_
                    go_frame
                    refine takeH (i := 5) (some 41) rfl rfl (by kernel_rfl) (by kernel_rfl) (by kernel_rfl) (fun _ _ _ h => h) (by rfl) (fun w hSw => by (try dsimp only at hSw); (subst hSw; go_simp; try rfl)) hHeld ?_
                    go_frame
                    refine takeH (i := 6) (some 42) rfl rfl (by kernel_rfl) (by kernel_rfl) (by kernel_rfl) (fun _ _ _ h => h) (by rfl) (fun w hSw => by (try dsimp only at hSw); go_simp; try rfl) hHeld ?_
                    go_frame
                    refine takeH (i := 7) (some 43) rfl rfl (by kernel_rfl) (by kernel_rfl) (by kernel_rfl) (fun _ _ _ h => h) (by rfl) (fun w hSw => by (try dsimp only at hSw); go_simp; try rfl) hHeld ?_
                    go_frame
                    refine takeH (i := 8) (some 44) rfl rfl (by kernel_rfl) (by kernel_rfl) (by kernel_rfl) (fun _ _ _ h => h) (by rfl) (fun w hSw => by (try dsimp only at hSw); go_simp; try rfl) hHeld ?_
                    go_frame
                    refine takeH (i := 9) (some 45) rfl rfl (by kernel_rfl) (by kernel_rfl) (by kernel_rfl) (fun _ _ _ h => h) (by rfl) (fun w hSw => by (try dsimp only at hSw); (subst hSw; go_simp; try rfl)) hHeld ?_
                    go_frame
                    refine takeH (i := 10) (some 46) rfl rfl (by kernel_rfl) (by kernel_rfl) (by kernel_rfl) (fun _ _ _ h => h) (by rfl) (fun w hSw => by (try dsimp only at hSw); go_simp; try rfl) hHeld ?_
                    go_frame
                    refine takeH (i := 11) (some 47) rfl rfl (by kernel_rfl) (by kernel_rfl) (by kernel_rfl) (fun _ _ _ h => h) (by rfl) (fun w hSw => by (try dsimp only at hSw); (refine (?_ : _ = Result.ok (Next.value (.bool false)) _); go_simp; first | rfl | omega | (try rfl))) hHeld ?_
                    go_frame
                    refine takeH (i := 12) (some 48) rfl rfl (by kernel_rfl) (by kernel_rfl) (by kernel_rfl) (fun _ _ _ h => h) (by rfl) (fun w hSw => by (try dsimp only at hSw); go_simp; try rfl) hHeld ?_
                    go_frame
                    refine takeH (i := 13) (some 16) rfl rfl (by kernel_rfl) (by kernel_rfl) (by kernel_rfl) (fun _ _ _ h => h) (by rfl) (fun w hSw => by (try dsimp only at hSw); go_simp; try rfl) hHeld ?_
                    go_frame
                    refine wpAnyH_done (by kernel_rfl) ?_ _
                    clear r0
                    go_upto_region 46 with (go_at_call 20; refine (copy_no _ _ nn _ _ _ h7 hin).mono ?_; rintro e Y ⟨rfl, hY⟩; subst Y)
                    clear c2 hO7
                    obtain ⟨qv, cv, ev, -⟩ := h7.form
                    obtain ⟨qu, cu, eu, -⟩ := R7.form
                    refine wp_region_held_drew (S := fun w' => w' = V7.drew) (by kernel_rfl) rfl (fun hHeld => ?_)
                    have bd : Below V7.heap.size V7 V7.drew := (Below.refl _ _).drew
                    have P8 := h7.keep bd
                    have R8 := R7.keep bd
                    have bb8 := ab_trans b7 bd
                    have p0 := P8.tri.c0
                    have p1 := P8.tri.c1
                    have p2 : V7.drew.cell? ⟨V2.heap.size, 2, none⟩ = some (.slice qv S.l.length cv) := by rw [← ev]; exact P8.tri.c2
                    have r0 : V7.drew.cell? ⟨r, 0, none⟩ = some (.slice qu S.l.length cu) := by rw [← eu]; exact R8.blk.at (i := 0) rfl
                    have r1 : V7.drew.cell? ⟨r, 1, none⟩ = some (.int .i64 S.lost) := R8.blk.at (i := 1) rfl
                    have r2 : V7.drew.cell? ⟨r, 2, none⟩ = some (.int .i64 S.taken) := R8.blk.at (i := 2) rfl
                    clear bd h7 R7 b7 ev eu
                    generalize V7.drew = Y8 at *
                    refine takeH (i := 0) (some 166) rfl rfl (by kernel_rfl) (by kernel_rfl) (by kernel_rfl) (fun _ _ _ h => h) (by rfl) (fun w hSw => by (try dsimp only at hSw); go_simp; try rfl) hHeld ?_
                    go_frame
                    refine takeH (i := 2) (some 168) rfl rfl (by kernel_rfl) (by kernel_rfl) (by kernel_rfl) (fun _ _ _ h => h) (by rfl) (fun w hSw => by (try dsimp only at hSw); go_simp; try rfl) hHeld ?_
                    go_frame
                    refine takeH (i := 3) (some 169) rfl rfl (by kernel_rfl) (by kernel_rfl) (by kernel_rfl) (fun _ _ _ h => h) (by rfl) (fun w hSw => by (try dsimp only at hSw); go_simp; try rfl) hHeld ?_
                    go_frame
                    refine takeH (i := 4) (some 170) rfl rfl (by kernel_rfl) (by kernel_rfl) (by kernel_rfl) (fun _ _ _ h => h) (by rfl) (fun w hSw => by (try dsimp only at hSw); go_simp; try rfl) hHeld ?_
                    go_frame
                    refine takeH (i := 5) (some 171) rfl rfl (by kernel_rfl) (by kernel_rfl) (by kernel_rfl) (fun _ _ _ h => h) (by rfl) (fun w hSw => by (try dsimp only at hSw); (subst hSw; go_simp; try rfl)) hHeld ?_
                    go_frame
                    refine takeH (i := 6) (some 172) rfl rfl (by kernel_rfl) (by kernel_rfl) (by kernel_rfl) (fun _ _ _ h => h) (by rfl) (fun w hSw => by (try dsimp only at hSw); go_simp; try rfl) hHeld ?_
                    go_frame
                    refine wpAnyH_ready (rs := [1]) (by kernel_rfl) (by simp) (AllReadyH.cons rfl (fun K hK => ?_) AllReadyH.nil)
                    go_simp
                    refine (plen_any _ _ _ _ _ p2).mono ?_
                    rintro e Z ⟨rfl, hZ⟩
                    subst Z
                    show K _ _
                    refine hK.out _ _ rfl (fun hHeld => ?_)
                    clear hK K
                    try go_frame
                    refine takeH (i := 7) (some 173) rfl rfl (by kernel_rfl) (by kernel_rfl) (by kernel_rfl) (fun _ _ _ h => h) (by rfl) (fun w hSw => by (try dsimp only at hSw); (refine (?_ : _ = Result.ok (Next.value (.bool false)) _); go_simp; try rfl)) hHeld ?_
                    go_frame
                    refine takeH (i := 8) (some 174) rfl rfl (by kernel_rfl) (by kernel_rfl) (by kernel_rfl) (fun _ _ _ h => h) (by rfl) (fun w hSw => by (try dsimp only at hSw); go_simp; try rfl) hHeld ?_
                    go_frame
                    refine takeH (i := 9) (some 175) rfl rfl (by kernel_rfl) (by kernel_rfl) (by kernel_rfl) (fun _ _ _ h => h) (by rfl) (fun w hSw => by (try dsimp only at hSw); go_simp; try rfl) hHeld ?_
                    go_frame
                    refine takeH (i := 11) (some 177) rfl rfl (by kernel_rfl) (by kernel_rfl) (by kernel_rfl) (fun _ _ _ h => h) (by rfl) (fun w hSw => by (try dsimp only at hSw); go_simp; try rfl) hHeld ?_
                    go_frame
                    refine takeH (i := 12) (some 178) rfl rfl (by kernel_rfl) (by kernel_rfl) (by kernel_rfl) (fun _ _ _ h => h) (by rfl) (fun w hSw => by (try dsimp only at hSw); go_simp; try rfl) hHeld ?_
                    go_frame
                    refine takeH (i := 13) (some 179) rfl rfl (by kernel_rfl) (by kernel_rfl) (by kernel_rfl) (fun _ _ _ h => h) (by rfl) (fun w hSw => by (try dsimp only at hSw); go_simp; try rfl) hHeld ?_
                    go_frame
                    refine takeH (i := 14) (some 180) rfl rfl (by kernel_rfl) (by kernel_rfl) (by kernel_rfl) (fun _ _ _ h => h) (by rfl) (fun w hSw => by (try dsimp only at hSw); (subst hSw; go_simp; try rfl)) hHeld ?_
                    go_frame
                    refine wpAnyH_ready (rs := [10]) (by kernel_rfl) (by simp) (AllReadyH.cons rfl (fun K hK => ?_) AllReadyH.nil)
                    go_simp
                    refine (plost_any _ _ _ p0).mono ?_
                    rintro e Z ⟨rfl, hZ⟩
                    subst Z
                    show K _ _
                    refine hK.out _ _ rfl (fun hHeld => ?_)
                    clear hK K
                    try go_frame
                    refine takeH (i := 15) (some 181) rfl rfl (by kernel_rfl) (by kernel_rfl) (by kernel_rfl) (fun _ _ _ h => h) (by rfl) (fun w hSw => by (try dsimp only at hSw); (refine (?_ : _ = Result.ok (Next.value (.bool false)) _); go_simp; try rfl)) hHeld ?_
                    go_frame
                    refine takeH (i := 16) (some 182) rfl rfl (by kernel_rfl) (by kernel_rfl) (by kernel_rfl) (fun _ _ _ h => h) (by rfl) (fun w hSw => by (try dsimp only at hSw); go_simp; try rfl) hHeld ?_
                    go_frame
                    refine takeH (i := 17) (some 183) rfl rfl (by kernel_rfl) (by kernel_rfl) (by kernel_rfl) (fun _ _ _ h => h) (by rfl) (fun w hSw => by (try dsimp only at hSw); go_simp; try rfl) hHeld ?_
                    go_frame
                    refine takeH (i := 18) (some 184) rfl rfl (by kernel_rfl) (by kernel_rfl) (by kernel_rfl) (fun _ _ _ h => h) (by rfl) (fun w hSw => by (try dsimp only at hSw); go_simp; try rfl) hHeld ?_
                    go_frame
                    refine takeH (i := 20) (some 186) rfl rfl (by kernel_rfl) (by kernel_rfl) (by kernel_rfl) (fun _ _ _ h => h) (by rfl) (fun w hSw => by (try dsimp only at hSw); go_simp; try rfl) hHeld ?_
                    go_frame
                    refine takeH (i := 21) (some 187) rfl rfl (by kernel_rfl) (by kernel_rfl) (by kernel_rfl) (fun _ _ _ h => h) (by rfl) (fun w hSw => by (try dsimp only at hSw); go_simp; try rfl) hHeld ?_
                    go_frame
                    refine takeH (i := 22) (some 188) rfl rfl (by kernel_rfl) (by kernel_rfl) (by kernel_rfl) (fun _ _ _ h => h) (by rfl) (fun w hSw => by (try dsimp only at hSw); go_simp; try rfl) hHeld ?_
                    go_frame
                    refine takeH (i := 23) (some 189) rfl rfl (by kernel_rfl) (by kernel_rfl) (by kernel_rfl) (fun _ _ _ h => h) (by rfl) (fun w hSw => by (try dsimp only at hSw); (subst hSw; go_simp; try rfl)) hHeld ?_
                    go_frame
                    refine wpAnyH_ready (rs := [19]) (by kernel_rfl) (by simp) (AllReadyH.cons rfl (fun K hK => ?_) AllReadyH.nil)
                    go_simp
                    refine (ptaken_any _ _ _ p1).mono ?_
                    rintro e Z ⟨rfl, hZ⟩
                    subst Z
                    show K _ _
                    refine hK.out _ _ rfl (fun hHeld => ?_)
                    clear hK K
                    try go_frame
                    refine takeH (i := 24) (some 190) rfl rfl (by kernel_rfl) (by kernel_rfl) (by kernel_rfl) (fun _ _ _ h => h) (by rfl) (fun w hSw => by (try dsimp only at hSw); (refine (?_ : _ = Result.ok (Next.value (.bool false)) _); go_simp; try rfl)) hHeld ?_
                    go_frame
                    refine takeH (i := 25) (some 191) rfl rfl (by kernel_rfl) (by kernel_rfl) (by kernel_rfl) (fun _ _ _ h => h) (by rfl) (fun w hSw => by (try dsimp only at hSw); go_simp; try rfl) hHeld ?_
                    go_frame
                    refine wpAnyH_done (by kernel_rfl) ?_ _
                    go_wp2_with fail
                    exact ⟨⟨k + 1, v5, u5, S, by omega, rfl, P8, R8, hs5, bb8⟩, by simp only [intOf]; omega⟩
                  · skip
                    refine takeH (i := 0) (some 36) rfl rfl (by kernel_rfl) (by kernel_rfl) (by kernel_rfl) (fun _ _ _ h => h) (by rfl) (fun w hSw => by (try dsimp only at hSw); go_simp; try rfl) hHeld ?_
                    go_frame
                    refine takeH (i := 1) (some 37) rfl rfl (by kernel_rfl) (by kernel_rfl) (by kernel_rfl) (fun _ _ _ h => h) (by rfl) (fun w hSw => by (try dsimp only at hSw); (subst hSw; go_simp; try rfl)) hHeld ?_
                    go_frame
                    refine takeH (i := 2) (some 38) rfl rfl (by kernel_rfl) (by kernel_rfl) (by kernel_rfl) (fun _ _ _ h => h) (by rfl) (fun w hSw => by (try dsimp only at hSw); (refine (?_ : _ = Result.ok (Next.value (.bool false)) _); go_simp; first | rfl | omega | (try rfl))) hHeld ?_
                    go_frame
                    refine takeH (i := 3) (some 39) rfl rfl (by kernel_rfl) (by kernel_rfl) (by kernel_rfl) (fun _ _ _ h => h) (by rfl) (fun w hSw => by (try dsimp only at hSw); go_simp; try rfl) hHeld ?_
                    go_frame
                    refine skipH (i := 4) (some 40) rfl rfl (by kernel_rfl) (by kernel_rfl) (by kernel_rfl) (fun _ _ _ h => h) (by rfl) hHeld ?_
                    go_frame
                    refine skipH (i := 5) (some 41) rfl rfl (by kernel_rfl) (by kernel_rfl) (by kernel_rfl) (fun _ _ _ h => h) (by rfl) hHeld ?_
                    go_frame
                    refine skipH (i := 6) (some 42) rfl rfl (by kernel_rfl) (by kernel_rfl) (by kernel_rfl) (fun _ _ _ h => h) (by rfl) hHeld ?_
                    go_frame
                    refine skipH (i := 7) (some 43) rfl rfl (by kernel_rfl) (by kernel_rfl) (by kernel_rfl) (fun _ _ _ h => h) (by rfl) hHeld ?_
                    go_frame
                    refine skipH (i := 8) (some 44) rfl rfl (by kernel_rfl) (by kernel_rfl) (by kernel_rfl) (fun _ _ _ h => h) (by rfl) hHeld ?_
                    go_frame
                    refine skipH (i := 9) (some 45) rfl rfl (by kernel_rfl) (by kernel_rfl) (by kernel_rfl) (fun _ _ _ h => h) (by rfl) hHeld ?_
                    go_frame
                    refine skipH (i := 10) (some 46) rfl rfl (by kernel_rfl) (by kernel_rfl) (by kernel_rfl) (fun _ _ _ h => h) (by rfl) hHeld ?_
                    go_frame
                    refine skipH (i := 11) (some 47) rfl rfl (by kernel_rfl) (by kernel_rfl) (by kernel_rfl) (fun _ _ _ h => h) (by rfl) hHeld ?_
                    go_frame
                    refine takeH (i := 12) (some 48) rfl rfl (by kernel_rfl) (by kernel_rfl) (by kernel_rfl) (fun _ _ _ h => h) (by rfl) (fun w hSw => by (try dsimp only at hSw); go_simp; try rfl) hHeld ?_
                    go_frame
                    refine takeH (i := 13) (some 16) rfl rfl (by kernel_rfl) (by kernel_rfl) (by kernel_rfl) (fun _ _ _ h => h) (by rfl) (fun w hSw => by (try dsimp only at hSw); go_simp; try rfl) hHeld ?_
                    go_frame
                    refine wpAnyH_done (by kernel_rfl) ?_ _
                    clear r0
                    go_upto_region 46 with (go_at_call 20; refine (copy_no _ _ nn _ _ _ h7 hin).mono ?_; rintro e Y ⟨rfl, hY⟩; subst Y)
                    clear c2 hO7
                    obtain ⟨qv, cv, ev, -⟩ := h7.form
                    obtain ⟨qu, cu, eu, -⟩ := R7.form
                    refine wp_region_held_drew (S := fun w' => w' = V7.drew) (by kernel_rfl) rfl (fun hHeld => ?_)
                    have bd : Below V7.heap.size V7 V7.drew := (Below.refl _ _).drew
                    have P8 := h7.keep bd
                    have R8 := R7.keep bd
                    have bb8 := ab_trans b7 bd
                    have p0 := P8.tri.c0
                    have p1 := P8.tri.c1
                    have p2 : V7.drew.cell? ⟨V2.heap.size, 2, none⟩ = some (.slice qv S.l.length cv) := by rw [← ev]; exact P8.tri.c2
                    have r0 : V7.drew.cell? ⟨r, 0, none⟩ = some (.slice qu S.l.length cu) := by rw [← eu]; exact R8.blk.at (i := 0) rfl
                    have r1 : V7.drew.cell? ⟨r, 1, none⟩ = some (.int .i64 S.lost) := R8.blk.at (i := 1) rfl
                    have r2 : V7.drew.cell? ⟨r, 2, none⟩ = some (.int .i64 S.taken) := R8.blk.at (i := 2) rfl
                    clear bd h7 R7 b7 ev eu
                    generalize V7.drew = Y8 at *
                    refine takeH (i := 0) (some 166) rfl rfl (by kernel_rfl) (by kernel_rfl) (by kernel_rfl) (fun _ _ _ h => h) (by rfl) (fun w hSw => by (try dsimp only at hSw); go_simp; try rfl) hHeld ?_
                    go_frame
                    refine takeH (i := 2) (some 168) rfl rfl (by kernel_rfl) (by kernel_rfl) (by kernel_rfl) (fun _ _ _ h => h) (by rfl) (fun w hSw => by (try dsimp only at hSw); go_simp; try rfl) hHeld ?_
                    go_frame
                    refine takeH (i := 3) (some 169) rfl rfl (by kernel_rfl) (by kernel_rfl) (by kernel_rfl) (fun _ _ _ h => h) (by rfl) (fun w hSw => by (try dsimp only at hSw); go_simp; try rfl) hHeld ?_
                    go_frame
                    refine takeH (i := 4) (some 170) rfl rfl (by kernel_rfl) (by kernel_rfl) (by kernel_rfl) (fun _ _ _ h => h) (by rfl) (fun w hSw => by (try dsimp only at hSw); go_simp; try rfl) hHeld ?_
                    go_frame
                    refine takeH (i := 5) (some 171) rfl rfl (by kernel_rfl) (by kernel_rfl) (by kernel_rfl) (fun _ _ _ h => h) (by rfl) (fun w hSw => by (try dsimp only at hSw); (subst hSw; go_simp; try rfl)) hHeld ?_
                    go_frame
                    refine takeH (i := 6) (some 172) rfl rfl (by kernel_rfl) (by kernel_rfl) (by kernel_rfl) (fun _ _ _ h => h) (by rfl) (fun w hSw => by (try dsimp only at hSw); go_simp; try rfl) hHeld ?_
                    go_frame
                    refine wpAnyH_ready (rs := [1]) (by kernel_rfl) (by simp) (AllReadyH.cons rfl (fun K hK => ?_) AllReadyH.nil)
                    go_simp
                    refine (plen_any _ _ _ _ _ p2).mono ?_
                    rintro e Z ⟨rfl, hZ⟩
                    subst Z
                    show K _ _
                    refine hK.out _ _ rfl (fun hHeld => ?_)
                    clear hK K
                    try go_frame
                    refine takeH (i := 7) (some 173) rfl rfl (by kernel_rfl) (by kernel_rfl) (by kernel_rfl) (fun _ _ _ h => h) (by rfl) (fun w hSw => by (try dsimp only at hSw); (refine (?_ : _ = Result.ok (Next.value (.bool false)) _); go_simp; try rfl)) hHeld ?_
                    go_frame
                    refine takeH (i := 8) (some 174) rfl rfl (by kernel_rfl) (by kernel_rfl) (by kernel_rfl) (fun _ _ _ h => h) (by rfl) (fun w hSw => by (try dsimp only at hSw); go_simp; try rfl) hHeld ?_
                    go_frame
                    refine takeH (i := 9) (some 175) rfl rfl (by kernel_rfl) (by kernel_rfl) (by kernel_rfl) (fun _ _ _ h => h) (by rfl) (fun w hSw => by (try dsimp only at hSw); go_simp; try rfl) hHeld ?_
                    go_frame
                    refine takeH (i := 11) (some 177) rfl rfl (by kernel_rfl) (by kernel_rfl) (by kernel_rfl) (fun _ _ _ h => h) (by rfl) (fun w hSw => by (try dsimp only at hSw); go_simp; try rfl) hHeld ?_
                    go_frame
                    refine takeH (i := 12) (some 178) rfl rfl (by kernel_rfl) (by kernel_rfl) (by kernel_rfl) (fun _ _ _ h => h) (by rfl) (fun w hSw => by (try dsimp only at hSw); go_simp; try rfl) hHeld ?_
                    go_frame
                    refine takeH (i := 13) (some 179) rfl rfl (by kernel_rfl) (by kernel_rfl) (by kernel_rfl) (fun _ _ _ h => h) (by rfl) (fun w hSw => by (try dsimp only at hSw); go_simp; try rfl) hHeld ?_
                    go_frame
                    refine takeH (i := 14) (some 180) rfl rfl (by kernel_rfl) (by kernel_rfl) (by kernel_rfl) (fun _ _ _ h => h) (by rfl) (fun w hSw => by (try dsimp only at hSw); (subst hSw; go_simp; try rfl)) hHeld ?_
                    go_frame
                    refine wpAnyH_ready (rs := [10]) (by kernel_rfl) (by simp) (AllReadyH.cons rfl (fun K hK => ?_) AllReadyH.nil)
                    go_simp
                    refine (plost_any _ _ _ p0).mono ?_
                    rintro e Z ⟨rfl, hZ⟩
                    subst Z
                    show K _ _
                    refine hK.out _ _ rfl (fun hHeld => ?_)
                    clear hK K
                    try go_frame
                    refine takeH (i := 15) (some 181) rfl rfl (by kernel_rfl) (by kernel_rfl) (by kernel_rfl) (fun _ _ _ h => h) (by rfl) (fun w hSw => by (try dsimp only at hSw); (refine (?_ : _ = Result.ok (Next.value (.bool false)) _); go_simp; try rfl)) hHeld ?_
                    go_frame
                    refine takeH (i := 16) (some 182) rfl rfl (by kernel_rfl) (by kernel_rfl) (by kernel_rfl) (fun _ _ _ h => h) (by rfl) (fun w hSw => by (try dsimp only at hSw); go_simp; try rfl) hHeld ?_
                    go_frame
                    refine takeH (i := 17) (some 183) rfl rfl (by kernel_rfl) (by kernel_rfl) (by kernel_rfl) (fun _ _ _ h => h) (by rfl) (fun w hSw => by (try dsimp only at hSw); go_simp; try rfl) hHeld ?_
                    go_frame
                    refine takeH (i := 18) (some 184) rfl rfl (by kernel_rfl) (by kernel_rfl) (by kernel_rfl) (fun _ _ _ h => h) (by rfl) (fun w hSw => by (try dsimp only at hSw); go_simp; try rfl) hHeld ?_
                    go_frame
                    refine takeH (i := 20) (some 186) rfl rfl (by kernel_rfl) (by kernel_rfl) (by kernel_rfl) (fun _ _ _ h => h) (by rfl) (fun w hSw => by (try dsimp only at hSw); go_simp; try rfl) hHeld ?_
                    go_frame
                    refine takeH (i := 21) (some 187) rfl rfl (by kernel_rfl) (by kernel_rfl) (by kernel_rfl) (fun _ _ _ h => h) (by rfl) (fun w hSw => by (try dsimp only at hSw); go_simp; try rfl) hHeld ?_
                    go_frame
                    refine takeH (i := 22) (some 188) rfl rfl (by kernel_rfl) (by kernel_rfl) (by kernel_rfl) (fun _ _ _ h => h) (by rfl) (fun w hSw => by (try dsimp only at hSw); go_simp; try rfl) hHeld ?_
                    go_frame
                    refine takeH (i := 23) (some 189) rfl rfl (by kernel_rfl) (by kernel_rfl) (by kernel_rfl) (fun _ _ _ h => h) (by rfl) (fun w hSw => by (try dsimp only at hSw); (subst hSw; go_simp; try rfl)) hHeld ?_
                    go_frame
                    refine wpAnyH_ready (rs := [19]) (by kernel_rfl) (by simp) (AllReadyH.cons rfl (fun K hK => ?_) AllReadyH.nil)
                    go_simp
                    refine (ptaken_any _ _ _ p1).mono ?_
                    rintro e Z ⟨rfl, hZ⟩
                    subst Z
                    show K _ _
                    refine hK.out _ _ rfl (fun hHeld => ?_)
                    clear hK K
                    try go_frame
                    refine takeH (i := 24) (some 190) rfl rfl (by kernel_rfl) (by kernel_rfl) (by kernel_rfl) (fun _ _ _ h => h) (by rfl) (fun w hSw => by (try dsimp only at hSw); (refine (?_ : _ = Result.ok (Next.value (.bool false)) _); go_simp; try rfl)) hHeld ?_
                    go_frame
                    refine takeH (i := 25) (some 191) rfl rfl (by kernel_rfl) (by kernel_rfl) (by kernel_rfl) (fun _ _ _ h => h) (by rfl) (fun w hSw => by (try dsimp only at hSw); go_simp; try rfl) hHeld ?_
                    go_frame
                    refine wpAnyH_done (by kernel_rfl) ?_ _
                    go_wp2_with fail
                    exact ⟨⟨k + 1, v5, u5, S, by omega, rfl, P8, R8, hs5, bb8⟩, by simp only [intOf]; omega⟩

theorem own : ownKnob Try.prog.godebug = none := by kernel_rfl
theorem laidOut : laidOutB Try.prog = true := by kernel_rfl

set_option maxRecDepth 100000 in
theorem lifted (os : Os) (started : os.Started) (H : Type) (enc : TypeId × Value → H) :
    ReturnsInHanded {} Try.checked os 3 .any (Rows.postPlaysSpec.pre6 enc Try.prog Try.f3 Rows.postPlaysRow.domain false) (Rows.postPlaysSpec.post enc Try.prog Try.f3 false true false false) := by
  refine returnsInHanded_of_change_sized (C := Try.checked) own started (by kernel_rfl) Try.func3
    (ChangeSpec.witness6 (enc := enc) (C := Try.checked) false ⟨#[], #[.slice none 0 0], []⟩ 8 (by kernel_rfl) (by kernel_rfl) (by kernel_rfl) (by kernel_rfl)) ?_
  intro W base args ds gs before hval0 hW hcnd hsz _
  have hval : ∀ (j : Nat) t v, Try.f3.params[j]? = some t → args[j]? = some v → Value.okWide Try.prog W .any base t v := hval0
  have hW' := hW
  obtain ⟨p, q, hA0, hV, rfl, hfz, hnd⟩ := hW
  have hA : DataW.TrodAll enc Try.prog W 0 (fun _ => true) true Try.f3.params.toList args.toList ds p := hA0
  rw [Try.params3] at hA hval
  obtain ⟨v0, vs0, d0, ds0, p0, q0, hargs, rfl, rfl, h0, r0⟩ := trodAll_cons hA
  obtain ⟨rfl, rfl, rfl⟩ := trodAll_nil r0
  obtain rfl : args = #[v0] := by cases args; simp_all
  obtain ⟨rfl, rfl⟩ := trodVars_none hV
  have k0 := h0
  have lt0 : ∀ x ∈ p0, x.block < W.heap.size := by obtain ⟨m, hm⟩ := k0; exact DataW.trod_lt m _ _ _ hm
  obtain ⟨sq0_, sn0_, sk0_, sg0_, so0_, os0_, rfl, Z0_, U0_⟩ := open_script8 (hval 0 22 v0 rfl rfl) h0 (fun n hn => by simpa using List.all_eq_true.1 hsz n (DataW.weights_mem_each (j := 0) (t := 22) (by kernel_rfl) rfl n hn))
  clear hA0 hval0
  refine (walk sq0_ sn0_ sk0_ sg0_ so0_ os0_ Z0_).mono fun e W' ⟨he, bel⟩ => ?_
  subst he
  exact ⟨_, rfl, _, _, _, [], _, [], hW', trodAll_mk1 (shut_bool Try.underlying4 _), (trodAll_cons_mk (Below.trod laidOut (by kernel_rfl) (of_decide_eq_true (by kernel_rfl)) k0 bel lt0) trodAll_mk0), rfl, bel.frame _, fun h => by cases h⟩

theorem over : Rows.postPlaysRow.holds Try.pinned (OpenSpec.ofChange Rows.postPlaysSpec) :=
  OpenClaim.holds_of_wide 3 Try.f3 rfl rfl rfl rfl rfl rfl rfl ⟨rfl, rfl, rfl, rfl, rfl⟩ rfl rfl rfl rfl rfl (by kernel_rfl) Try.func3 (by kernel_rfl)
    (of_decide_eq_true (by kernel_rfl)) (by unfold Func.isWrapper; first | (rw [if_pos (by decide +kernel)]; kernel_rfl) | (rw [if_neg (by decide +kernel)]; exact ⟨rfl, rfl⟩))
    (fun os started H enc _ => lifted os started H enc)

theorem proved : Rows.PostPlaysSaid := over
end Go.Proofs.Yteililgfjnoabaa.postPlays
namespace Go.Proofs.Yteililgfjnoabaa
theorem postPlays_holds : Rows.PostPlaysSaid := postPlays.proved
#print axioms postPlays_holds
end Go.Proofs.Yteililgfjnoabaa
