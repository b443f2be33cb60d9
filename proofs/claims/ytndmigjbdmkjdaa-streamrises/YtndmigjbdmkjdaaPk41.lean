/-
  Numbers rise by one, marks never go back, no sample is held whose time was below the mark ahead of it: estuarylaw14.StreamRises returns true for every input; no condition.
-/
import Derived.Test.YtndmigjbdmkjdaaPk36
import Derived.Test.YtndmigjbdmkjdaaPk40
import Derived.ProofKit
import Derived.OpenShut
import Derived.ChangeOld
import Derived.Below
namespace Go.Proofs.Ytndmigjbdmkjdaa.streamRises
open Go.ChangeShapes Go.WideShapes Go.ChangeAt Go.RowKit Go.Joins
set_option linter.unusedVariables false
set_option maxRecDepth 100000

theorem q22 (w : World) : (binOp .eql 29 (Err 2) (Err 2)).run Try.prog w = .ok (.bool true) w := by kernel_rfl
theorem n22 (w : World) : (binOp .neq 29 (Err 2) (Err 2)).run Try.prog w = .ok (.bool false) w := by kernel_rfl
theorem n20 (w : World) : (binOp .neq 29 (Err 2) .nilIface).run Try.prog w = .ok (.bool true) w := by kernel_rfl
theorem n80 (w : World) : (binOp .neq 29 (Err 8) .nilIface).run Try.prog w = .ok (.bool true) w := by kernel_rfl
theorem n90 (w : World) : (binOp .neq 29 (Err 9) .nilIface).run Try.prog w = .ok (.bool true) w := by kernel_rfl
theorem n100 (w : World) : (binOp .neq 29 (Err 10) .nilIface).run Try.prog w = .ok (.bool true) w := by kernel_rfl
theorem n88 (w : World) : (binOp .neq 29 (Err 8) (Err 8)).run Try.prog w = .ok (.bool false) w := by kernel_rfl
theorem q108 (w : World) : (binOp .eql 29 (Err 10) (Err 8)).run Try.prog w = .ok (.bool false) w := by kernel_rfl
theorem q08 (w : World) : (binOp .eql 29 .nilIface (Err 8)).run Try.prog w = .ok (.bool false) w := by kernel_rfl
theorem q09 (w : World) : (binOp .eql 29 .nilIface (Err 9)).run Try.prog w = .ok (.bool false) w := by kernel_rfl
/-- What the law keeps of a stream: its last mark. -/
structure Ri (S : Sm) (H mk : Int) (mkd' : Bool) (k : Nat) : Prop where
  hd : S.hd = H
  len : (S.ho.length : Int) ≤ H
  nx : S.nx ≤ (k : Int) + 1
  md : mkd S = mkd'
  mt : mkd' = true → S.mr.t = mk
theorem Ri.pas {S : Sm} {H mk : Int} {m : Bool} {k : Nat} (h : Ri S H mk m k) (t : Int) : pas S t = (m && decide (t < mk)) := by
  unfold Go.Proofs.Ytndmigjbdmkjdaa.pas
  rw [h.md]
  cases m
  · rfl
  · rw [h.mt rfl]
theorem Ri.cut {S : Sm} {H mk : Int} {m : Bool} {k : Nat} (h : Ri S H mk m k) (ps : List (Int × Int)) : Ri (cutS S ps) H mk m (k + 1) := by
  have h1 : (cutS S ps).ho.length ≤ S.ho.length := List.length_filter_le _ _
  have h2 := h.len
  have h3 := h.nx
  exact ⟨h.hd, by omega, by show S.nx ≤ _; omega, h.md, h.mt⟩
theorem Ri.next {S : Sm} {H mk : Int} {m : Bool} {k : Nat} (h : Ri S H mk m k) : Ri S H mk m (k + 1) := ⟨h.hd, h.len, by have := h.nx; omega, h.md, h.mt⟩
/-- A sample that is put. -/
theorem Ri.samp {S : Sm} {H mk : Int} {m : Bool} {k : Nat} (h : Ri S H mk m k) (t y v : Int) (hN : sampN S t = 0) : putN S ⟨S.nx, 1, t, y, v⟩ = 0 ∧ Ri (putS S ⟨S.nx, 1, t, y, v⟩) H mk m (k + 1) ∧ (putS S ⟨S.nx, 1, t, y, v⟩).nx = S.nx + 1 := by
  have hp : Go.Proofs.Ytndmigjbdmkjdaa.pas S t = false := by
    unfold sampN at hN
    cases c : Go.Proofs.Ytndmigjbdmkjdaa.pas S t
    · rfl
    · rw [c, if_pos rfl] at hN; cases hN
  have hh : ¬ S.hd ≤ (S.ho.length : Int) := fun c => by
    unfold sampN at hN
    rw [hp, if_neg (by decide), if_pos c] at hN; cases hN
  have h1 : putN S ⟨S.nx, 1, t, y, v⟩ = 0 := by
    unfold putN
    rw [if_neg (by simp), if_pos rfl, hp]; rfl
  rw [putS_sample h1 rfl]
  have h2 := h.hd
  have h3 := h.nx
  exact ⟨h1, ⟨h.hd, by show ((S.ho ++ [_]).length : Int) ≤ H; rw [List.length_append, List.length_singleton]; omega, by show S.nx + 1 ≤ _; omega, h.md, h.mt⟩, rfl⟩
/-- A mark that is put. -/
theorem Ri.mark {S : Sm} {H mk : Int} {m : Bool} {k : Nat} (h : Ri S H mk m k) (t : Int) (hN : markN S t = 0) (h1 : 1 ≤ S.nx) : putN S ⟨S.nx, 2, t, 0, 0⟩ = 0 ∧ Ri (putS S ⟨S.nx, 2, t, 0, 0⟩) H t true (k + 1) ∧ (putS S ⟨S.nx, 2, t, 0, 0⟩).nx = S.nx + 1 := by
  have hp : Go.Proofs.Ytndmigjbdmkjdaa.pas S t = false := by
    unfold markN at hN
    cases c : Go.Proofs.Ytndmigjbdmkjdaa.pas S t
    · rfl
    · rw [c, if_pos rfl] at hN; cases hN
  have h2 : putN S ⟨S.nx, 2, t, 0, 0⟩ = 0 := by
    unfold putN
    rw [if_neg (by simp), if_neg (by show ¬ (2 : Int) = 1; decide), if_pos rfl, hp, if_neg (by decide), if_pos ⟨rfl, rfl⟩]
  rw [putS_mark h2 (by show ¬ (2 : Int) = 1; decide)]
  have h3 := h.nx
  refine ⟨h2, ⟨h.hd, h.len, by show S.nx + 1 ≤ _; omega, ?_, fun _ => rfl⟩, rfl⟩
  unfold mkd zOp
  simp only [decide_eq_true_eq]
  intro e
  injection e with e1
  omega
/-- The same operation again isn't the next one. -/
theorem put_again {S T : Sm} {o : Op5} (h : T.nx = S.nx + 1) (ho : o.s = S.nx) : putN T o = 2 ∧ putS T o = T := by
  have h1 : putN T o = 2 := by unfold putN; rw [if_pos (by omega)]
  exact ⟨h1, putS_no (by rw [h1]; decide)⟩
theorem _root_.Go.Proofs.Ytndmigjbdmkjdaa.Sq.chgP {W W' : World} {B b P : Nat} {vr vh vc : Value} {S : Sm} {arr : Array Value} (h : Sq W B b vr vh vc S) (hP : Blk W P arr 37) (hn : ¬ bkS b vh vc P) (hc : Chg P W W') : Sq W' B b vr vh vc S :=
  h.frm (frm_chg (X := fun r => r = P) hc rfl) (fun k hk e => hn (e ▸ hk)) (fun k hk hi => absurd (hP.kindR.uniq (hk ▸ hi)) (by decide))
set_option maxHeartbeats 8000000 in
theorem rises_walk (x : CsD) (w : World) (h : CsZ w x) : Calls Try.prog 4 #[.agg (csA x)] w fun e w' => e = .returned (.bool true) ∧ Below w.heap.size w w' := by
  obtain ⟨qr, nr, cr, res, sh, hd, q, n, cap, g, off, os⟩ := x
  obtain ⟨A, hE, hB, hw⟩ := blk1 w (csA ⟨qr, nr, cr, res, sh, hd, q, n, cap, g, off, os⟩) 25
  have hA := h.keep hw
  have k0 : A.cell? ⟨w.heap.size, 0, none⟩ = some (.slice qr nr cr) := hB.at rfl
  have k1 : A.cell? ⟨w.heap.size, 1, none⟩ = some (.int .i64 sh) := hB.at rfl
  have k2 : A.cell? ⟨w.heap.size, 2, none⟩ = some (.int .i64 hd) := hB.at rfl
  have k3 : A.cell? ⟨w.heap.size, 3, none⟩ = some (.slice q n cap) := hB.at rfl
  have hlo := fun (V : World) (hV : Below A.heap.size A V) => slong_any ⟨qr, nr, cr, res, sh, hd, q, n, cap, g, off, os⟩ V (hA.keep hV)
  unfold csA at hE hlo
  unfold csA
  dsimp only at hE hlo ⊢
  go_enter Try.func4, Try.ntmps4
  go_upto_region 3 with (go_at_call 9; refine (alive14_any _).mono ?_; rintro e W1 ⟨rfl, b1⟩)
  have hB1 := hB.keep b1
  have hlo1 := hlo W1 b1
  have j0 : W1.cell? ⟨w.heap.size, 0, none⟩ = some (.slice qr nr cr) := hB1.at rfl
  have j1 : W1.cell? ⟨w.heap.size, 1, none⟩ = some (.int .i64 sh) := hB1.at rfl
  have j2 : W1.cell? ⟨w.heap.size, 2, none⟩ = some (.int .i64 hd) := hB1.at rfl
  have j3 : W1.cell? ⟨w.heap.size, 3, none⟩ = some (.slice q n cap) := hB1.at rfl
  clear k0 k1 k2 k3 hE hlo
  go_wp2_with (go_at_call 10; refine hlo1.mono ?_; rintro e W2 ⟨⟨r, rfl⟩, b2⟩; have hB2 := hB1.keep b2; have l0 : W2.cell? ⟨w.heap.size, 0, none⟩ = some (.slice qr nr cr) := hB2.at rfl; have l1 : W2.cell? ⟨w.heap.size, 1, none⟩ = some (.int .i64 sh) := hB2.at rfl; have l2 : W2.cell? ⟨w.heap.size, 2, none⟩ = some (.int .i64 hd) := hB2.at rfl)
  · go_ret
    exact ⟨rfl, ab_trans (ab_trans hw b1) b2⟩
  have hW2 := ab_trans (ab_trans hw b1) b2
  have h2 := (hA.keep b1).keep b2
  clear hlo1 hB hB1 hA j0 j1 j2 j3 b1 b2 hw
  cases hgd : goodF res sh hd
  · refine (snew_noL _ res sh hd W2 h2.re h2.rl hgd).mono ?_
    rintro e W3 ⟨rfl, b3⟩
    have e1 := q22
    have e2 := n20
    go_wp2_with fail
    go_ret
    exact ⟨rfl, ab_trans hW2 b3⟩
  · refine (snew_ok _ res sh hd W2 h2.re (fun r hr => (h2.rb r hr).2) hgd).mono ?_
    rintro e W3 ⟨b, vr, vh0, vc, rfl, h3, b3⟩
    have hB3 := hB2.keep b3
    have j3 : W3.cell? ⟨w.heap.size, 3, none⟩ = some (.slice q n cap) := hB3.at rfl
    have hRi0 : Ri (newS res sh hd) hd 0 false 0 := ⟨rfl, by obtain ⟨-, -, -, hh⟩ := goodF_iff.1 hgd; show ((0 : Nat) : Int) ≤ hd; omega, by show (1 : Int) ≤ _; omega, rfl, fun h => by cases h⟩
    have e1 := q22
    have e2 := n22
    have e3 := n20
    have e4 := n80
    have e5 := n90
    have e6 := n100
    have e7 := n88
    have e8 := q108
    have e9 := q08
    have e10 := q09
    have e11 := seq99
    have hrow : ScRow W2 q n cap g off os := h2.row
    have hpw : ∀ (k : Nat) (x : ScD), os[k]? = some x → ER E2 w x.vp x.ps := fun k x hx => (h.row.row k x hx).sp
    obtain ⟨hlen0, -, -, hfew, hp, hlt, hat⟩ := hrow
    clear h h2 hB3
    go_wp2_with fail
    go_loopw [5, 6, 37] (fun a d y wr => ∃ (k : Nat) (S : Sm) (vh : Value) (mk : Int) (md : Bool), k ≤ n ∧ a = .int .i64 mk ∧ d = .bool md ∧ y = .int .i64 (k : Int) ∧ Sq wr W2.heap.size b vr vh vc S ∧ Ri S hd mk md k ∧ Below W2.heap.size W2 wr) (fun _ _ y _ => n - (intOf y).toNat)
    case atStart => exact ⟨0, _, _, 0, false, Nat.zero_le _, rfl, rfl, rfl, h3, hRi0, b3⟩
    case round =>
      clear h3 hRi0 b3 j3
      obtain ⟨k, S, vh, mk, md, hk, rfl, rfl, rfl, hS, hR, hb⟩ := hrel
      by_cases ck : k = n
      · subst ck
        have hB4 := hB2.keep hb
        have j2 : ∀ V, Below wr.heap.size wr V → V.cell? ⟨w.heap.size, 2, none⟩ = some (.int .i64 hd) := fun V hV => (hB4.keep hV).at rfl
        have hln := hR.len
        clear hat
        go_upto_region 36 with fail
        refine wp_region_held_drew (S := fun w' => Below wr.heap.size wr w') (by kernel_rfl) (ab_drew (Below.refl _ _)) (fun hHeld => ?_)
        have hSd := hS.keep hHeld
        generalize wr.drew = V at *
        refine takeH (i := 0) (some 166) rfl rfl (by kernel_rfl) (by kernel_rfl) (by kernel_rfl) (fun _ _ _ h => h) (by rfl) (fun w hSw => by (try dsimp only at hSw); go_simp; try rfl) hHeld ?_
        go_frame
        refine takeH (i := 3) (some 169) rfl rfl (by kernel_rfl) (by kernel_rfl) (by kernel_rfl) (fun _ _ _ h => h) (by rfl) (fun w hSw => by (try dsimp only at hSw); go_simp; try rfl) hHeld ?_
        go_frame
        refine takeH (i := 4) (some 170) rfl rfl (by kernel_rfl) (by kernel_rfl) (by kernel_rfl) (fun _ _ _ h => h) (by rfl) (fun w hSw => by (try dsimp only at hSw); (have y := j2 _ hSw; go_simp; try rfl)) hHeld ?_
        go_frame
        refine wpAnyH_ready (rs := [1]) (by kernel_rfl) (by simp) (AllReadyH.cons rfl (fun K hK => ?_) AllReadyH.nil)
        go_simp
        refine (sheld_any V hSd).mono ?_
        rintro e W9 ⟨v9, rfl, hO9, b9⟩
        obtain ⟨q9, c9, e9'⟩ := hO9.form
        rw [e9']
        show K _ _
        refine hK.out _ _ (ab_trans hHeld b9) (fun hHeld => ?_)
        clear hK K
        try go_frame
        refine takeH (i := 2) (some 168) rfl rfl (by kernel_rfl) (by kernel_rfl) (by kernel_rfl) (fun _ _ _ h => h) (by rfl) (fun w hSw => by (try dsimp only at hSw); go_simp; try rfl) hHeld ?_
        go_frame
        refine takeH (i := 5) (some 171) rfl rfl (by kernel_rfl) (by kernel_rfl) (by kernel_rfl) (fun _ _ _ h => h) (by rfl) (fun w hSw => by (try dsimp only at hSw); go_simp; try rfl) hHeld ?_
        go_frame
        refine takeH (i := 6) (some 2) rfl rfl (by kernel_rfl) (by kernel_rfl) (by kernel_rfl) (fun _ _ _ h => h) (by rfl) (fun w hSw => by (try dsimp only at hSw); go_simp; try rfl) hHeld ?_
        go_frame
        refine wpAnyH_done (by kernel_rfl) ?_ _
        go_wp2_with fail
        go_ret
        refine ⟨?_, ab_trans hW2 (ab_trans hb hHeld)⟩
        first | rfl | (simp; omega) | skip
      · obtain ⟨x, hx⟩ : ∃ x, os[k]? = some x := ⟨os[k], List.getElem?_eq_getElem (by omega)⟩
        obtain rfl := hp (by omega)
        have ox := (hat k x hx).keep (hlt (by omega)) hb
        obtain ⟨d0, d1, d2, d3, d4, d5, d6, d7, d8, d9, sl, hxf⟩ := ox
        obtain ⟨qx, cx, ex⟩ := sl.form
        rw [ex] at d9
        have hpx := hpw k x hx
        rw [ex] at hpx
        have hki : (k : Int) < (n : Int) := by omega
        obtain ⟨A1, hE1, hBo, hw1⟩ := blk1 wr #[.int .i64 x.kd, .int .i64 x.t, .int .i64 x.y, .int .i64 x.v, .int .i64 x.o.s, .int .i64 x.o.k, .int .i64 x.o.t, .int .i64 x.o.y, .int .i64 x.o.v, .slice qx x.ps.length cx] 40
        have hS1 := hS.keep hw1
        have hsn1 := snext_any A1 hS1
        have hfr0 := hS.fresh (Nat.le_refl wr.heap.size)
        have hfr := hS.fresh hw1.size
        have hPo : wr.heap.size ≠ A1.heap.size := Nat.ne_of_lt hBo.lt
        have hBP : W2.heap.size ≤ A1.heap.size := Nat.le_trans hb.size hw1.size
        clear hat hx hS
        go_upto_region 14 with (first
          | (go_at_call 16; refine hsn1.mono ?_; rintro e A1' ⟨rfl, hA1'⟩; subst A1'; obtain ⟨Z, hEz, hZ, hz⟩ := blk1 A1 (opA zOp) 37; unfold opA zOp at hEz; dsimp only at hEz)
          | (refine st_op rfl rfl (k1 := zOp) hZ rfl rfl ?_; intro W3' hX3 C3))
        have hA3 : Below A1.heap.size A1 W3' := ab_chg hz C3 (Nat.le_refl _)
        have hS3 := hS1.keep hA3
        have hBo3 := hBo.keep hA3
        have hb3 : Below W2.heap.size W2 W3' := ab_trans (ab_trans hb hw1) hA3
        have y0 : W3'.cell? ⟨wr.heap.size, 0, none⟩ = some (.int .i64 x.kd) := hBo3.at rfl
        have y1 : W3'.cell? ⟨wr.heap.size, 1, none⟩ = some (.int .i64 x.t) := hBo3.at rfl
        have y2 : W3'.cell? ⟨wr.heap.size, 2, none⟩ = some (.int .i64 x.y) := hBo3.at rfl
        have y3 : W3'.cell? ⟨wr.heap.size, 3, none⟩ = some (.int .i64 x.v) := hBo3.at rfl
        clear hE1 hBo hw1 hS1 hsn1 hEz hZ hz C3 hA3 hb d0 d1 d2 d3 d4 d5 d6 d7 d8 d9 sl
        by_cases q0 : x.kd = 0
        · have g0 : (x.kd == 0) = true := by simp [q0]
          have g1 : (x.kd == 1) = false := by simp [q0]
          have hcs := ssample_any x.t x.y x.v W3' hS3
          have hpas := hR.pas x.t
          clear q0
          cases md
          · have hpf : pas S x.t = false := by rw [hpas]; rfl
            clear hpas
            by_cases hho : S.hd ≤ (S.ho.length : Int)
            · have hN : sampN S x.t = 10 := by unfold sampN; rw [hpf, if_neg (by decide), if_pos hho]
              have hO : sampO S x.t x.y x.v = zOp := by unfold sampO; rw [hN, if_neg (by decide)]
              rw [hN, hO] at hcs
              unfold opV opA zOp at hcs
              rw [show errV 10 = Err 10 from rfl] at hcs
              dsimp only at hcs
              go_upto_region 17 with (first
                | (go_at_call 20; refine hcs.mono ?_; rintro e W4 ⟨rfl, b4⟩; have hX4 := hX3.keep b4)
                | (refine st_op rfl rfl (k1 := zOp) hX4 rfl rfl ?_; intro W5 hX5 C5))
              have hS4 := hS3.keep b4
              have hS5 := hS4.chgP hX4 hfr C5
              have hb5 := (hb3.trans (b4.mono hb3.size)).trans (C5.below hBP)
              have hBo5 := (hBo3.keep b4).chg C5 hPo
              have z1 : W5.cell? ⟨wr.heap.size, 1, none⟩ = some (.int .i64 x.t) := hBo5.at rfl
              have z0 : W5.cell? ⟨wr.heap.size, 0, none⟩ = some (.int .i64 x.kd) := hBo5.at rfl
              clear hcs b4 hX4 C5 hS4 hS3 hX3 hBo3 hb3 y0 y1 y2 y3
              have hsn := snext_any W5 hS5
              go_wp2_with (go_at_call 16; refine hsn.mono ?_; rintro e W6 ⟨rfl, hW6⟩; subst W6)
              exact ⟨⟨k + 1, S, vh, mk, false, by omega, rfl, rfl, by go_num, hS5, hR.next, hb5⟩, by simp only [intOf]; omega⟩
            · have hN : sampN S x.t = 0 := by unfold sampN; rw [hpf, if_neg (by decide), if_neg hho]
              have hO : sampO S x.t x.y x.v = ⟨S.nx, 1, x.t, x.y, x.v⟩ := by unfold sampO; rw [if_pos hN]
              rw [hN, hO] at hcs
              unfold opV opA at hcs
              rw [show errV 0 = .nilIface from rfl] at hcs
              dsimp only at hcs
              go_upto_region 17 with (first
                | (go_at_call 20; refine hcs.mono ?_; rintro e W4 ⟨rfl, b4⟩; have hX4 := hX3.keep b4)
                | (refine st_op rfl rfl (k1 := ⟨S.nx, 1, x.t, x.y, x.v⟩) hX4 rfl rfl ?_; intro W5 hX5 C5))
              have hS4 := hS3.keep b4
              have hS5 := hS4.chgP hX4 hfr C5
              have hb5 := (hb3.trans (b4.mono hb3.size)).trans (C5.below hBP)
              have hBo5 := (hBo3.keep b4).chg C5 hPo
              have z1 : W5.cell? ⟨wr.heap.size, 1, none⟩ = some (.int .i64 x.t) := hBo5.at rfl
              have z0 : W5.cell? ⟨wr.heap.size, 0, none⟩ = some (.int .i64 x.kd) := hBo5.at rfl
              clear hcs b4 hX4 C5 hS4 hS3 hX3 hBo3 hb3 y0 y1 y2 y3
              obtain ⟨p1, hR6, hnx6⟩ := hR.samp x.t x.y x.v hN
              have hn0 := hS5.ok.n0
              have hn1 := hS5.ok.n1
              have hfit : Fit5 ⟨S.nx, 1, x.t, x.y, x.v⟩ := ⟨by unfold J64; dsimp only; omega, by unfold J64; dsimp only; omega, hxf.t, hxf.y, hxf.v⟩
              have hlh : S.ho.length < 100000 := by have h1 := hR.len; have h2 := hS5.ok.h1; have h3 := hR.hd; omega
              have hnb : S.nx < 9223372036854775806 := by have h1 := hR.nx; omega
              have hcp := sput_any ⟨S.nx, 1, x.t, x.y, x.v⟩ W5 hS5 hfit (by omega) hlh
              have hlh2 : (putS S ⟨S.nx, 1, x.t, x.y, x.v⟩).ho.length < 100000 := by have h1 := hR6.len; have h2 := hS5.ok.h1; have h3 := hR.hd; omega
              obtain ⟨p2, p3⟩ := put_again (o := ⟨S.nx, 1, x.t, x.y, x.v⟩) hnx6 rfl
              generalize hT : putS S ⟨S.nx, 1, x.t, x.y, x.v⟩ = T at *
              clear hT
              rw [p1] at hcp
              unfold opV opA at hcp
              rw [show errV 0 = .nilIface from rfl] at hcp
              dsimp only at hcp
              have u0 : W5.cell? ⟨A1.heap.size, 0, none⟩ = some (.int .i64 (S.nx)) := hX5.at rfl
              have u1 : W5.cell? ⟨A1.heap.size, 1, none⟩ = some (.int .i64 (1)) := hX5.at rfl
              have u2 : W5.cell? ⟨A1.heap.size, 2, none⟩ = some (.int .i64 (x.t)) := hX5.at rfl
              have u3 : W5.cell? ⟨A1.heap.size, 3, none⟩ = some (.int .i64 (x.y)) := hX5.at rfl
              have u4 : W5.cell? ⟨A1.heap.size, 4, none⟩ = some (.int .i64 (x.v)) := hX5.at rfl
              have hla : lastV T = .tuple #[.int .i64 0, .int .i64 0, .bool false] := by unfold lastV; rw [hR6.md]; rfl
              have HNX : Hid (T.nx = S.nx + 1) := hnx6
              have HP2 : Hid (putN T ⟨S.nx, 1, x.t, x.y, x.v⟩ = 2 ∧ putS T ⟨S.nx, 1, x.t, x.y, x.v⟩ = T) := ⟨p2, p3⟩
              have HLA : Hid (lastV T = .tuple #[.int .i64 0, .int .i64 0, .bool false]) := hla
              clear p1 p2 p3 hnx6 hla
              go_wp2_with (first
                | (go_at_call 15; refine hcp.mono ?_; rintro e W6 ⟨rfl, vh6, h6, m6⟩; have hX6 := hX5.frm m6.frm hfr; have hfr6 := m6.out hfr hX5.lt; have hBo6 := hBo5.frm m6.frm hfr0; have hfo6 := m6.out hfr0 hBo5.lt; have hb6 := hS5.frmB m6 hb5 rfl; have v0 : W6.cell? ⟨A1.heap.size, 0, none⟩ = some (.int .i64 (S.nx)) := hX6.at rfl; have v1 : W6.cell? ⟨A1.heap.size, 1, none⟩ = some (.int .i64 (1)) := hX6.at rfl; have v2 : W6.cell? ⟨A1.heap.size, 2, none⟩ = some (.int .i64 (x.t)) := hX6.at rfl; have v3 : W6.cell? ⟨A1.heap.size, 3, none⟩ = some (.int .i64 (x.y)) := hX6.at rfl; have v4 : W6.cell? ⟨A1.heap.size, 4, none⟩ = some (.int .i64 (x.v)) := hX6.at rfl; have hsn6 := snext_any W6 h6; rw [HNX.out] at hsn6; have hcq := sput_any ⟨S.nx, 1, x.t, x.y, x.v⟩ W6 h6 hfit (by rw [HNX.out]; omega) hlh2; rw [HP2.out.1, HP2.out.2] at hcq; unfold opV opA at hcq; rw [show errV 2 = Err 2 from rfl] at hcq; dsimp only at hcq)
                | (go_at_call 16; refine hsn6.mono ?_; rintro e W6' ⟨rfl, hW6⟩; subst W6')
                | (go_at_call 15; refine hcq.mono ?_; rintro e W7 ⟨rfl, vh7, h7, m7⟩; have hBo7 := hBo6.frm m7.frm hfo6; have hb7 := h6.frmB m7 hb6 rfl; have t0 : W7.cell? ⟨wr.heap.size, 0, none⟩ = some (.int .i64 x.kd) := hBo7.at rfl; have t1 : W7.cell? ⟨wr.heap.size, 1, none⟩ = some (.int .i64 x.t) := hBo7.at rfl; have hla7 := slast_any W7 h7; rw [HLA.out] at hla7)
                | (go_at_call 22; refine hla7.mono ?_; rintro e W8 ⟨rfl, b8⟩))
              exact ⟨⟨k + 1, T, vh7, mk, false, by omega, rfl, rfl, by go_num, h7.keep b8, hR6, hb7.trans (b8.mono hb7.size)⟩, by simp only [intOf]; omega⟩
          · by_cases hlt2 : x.t < mk
            · have hpt : pas S x.t = true := by rw [hpas]; simp [hlt2]
              have hN : sampN S x.t = 8 := by unfold sampN; rw [hpt, if_pos rfl]
              have hO : sampO S x.t x.y x.v = zOp := by unfold sampO; rw [hN, if_neg (by decide)]
              clear hpas hpt
              rw [hN, hO] at hcs
              unfold opV opA zOp at hcs
              rw [show errV 8 = Err 8 from rfl] at hcs
              dsimp only at hcs
              go_upto_region 17 with (first
                | (go_at_call 20; refine hcs.mono ?_; rintro e W4 ⟨rfl, b4⟩; have hX4 := hX3.keep b4)
                | (refine st_op rfl rfl (k1 := zOp) hX4 rfl rfl ?_; intro W5 hX5 C5))
              have hS4 := hS3.keep b4
              have hS5 := hS4.chgP hX4 hfr C5
              have hb5 := (hb3.trans (b4.mono hb3.size)).trans (C5.below hBP)
              have hBo5 := (hBo3.keep b4).chg C5 hPo
              have z1 : W5.cell? ⟨wr.heap.size, 1, none⟩ = some (.int .i64 x.t) := hBo5.at rfl
              have z0 : W5.cell? ⟨wr.heap.size, 0, none⟩ = some (.int .i64 x.kd) := hBo5.at rfl
              clear hcs b4 hX4 C5 hS4 hS3 hX3 hBo3 hb3 y0 y1 y2 y3
              have hsn := snext_any W5 hS5
              go_wp2_with (go_at_call 16; refine hsn.mono ?_; rintro e W6 ⟨rfl, hW6⟩; subst W6)
              exact ⟨⟨k + 1, S, vh, mk, true, by omega, rfl, rfl, by go_num, hS5, hR.next, hb5⟩, by simp only [intOf]; omega⟩
            · have hpf : pas S x.t = false := by rw [hpas]; simp [hlt2]
              clear hpas
              by_cases hho : S.hd ≤ (S.ho.length : Int)
              · have hN : sampN S x.t = 10 := by unfold sampN; rw [hpf, if_neg (by decide), if_pos hho]
                have hO : sampO S x.t x.y x.v = zOp := by unfold sampO; rw [hN, if_neg (by decide)]
                rw [hN, hO] at hcs
                unfold opV opA zOp at hcs
                rw [show errV 10 = Err 10 from rfl] at hcs
                dsimp only at hcs
                go_upto_region 17 with (first
                  | (go_at_call 20; refine hcs.mono ?_; rintro e W4 ⟨rfl, b4⟩; have hX4 := hX3.keep b4)
                  | (refine st_op rfl rfl (k1 := zOp) hX4 rfl rfl ?_; intro W5 hX5 C5))
                have hS4 := hS3.keep b4
                have hS5 := hS4.chgP hX4 hfr C5
                have hb5 := (hb3.trans (b4.mono hb3.size)).trans (C5.below hBP)
                have hBo5 := (hBo3.keep b4).chg C5 hPo
                have z1 : W5.cell? ⟨wr.heap.size, 1, none⟩ = some (.int .i64 x.t) := hBo5.at rfl
                have z0 : W5.cell? ⟨wr.heap.size, 0, none⟩ = some (.int .i64 x.kd) := hBo5.at rfl
                clear hcs b4 hX4 C5 hS4 hS3 hX3 hBo3 hb3 y0 y1 y2 y3
                have hsn := snext_any W5 hS5
                go_wp2_with (go_at_call 16; refine hsn.mono ?_; rintro e W6 ⟨rfl, hW6⟩; subst W6)
                exact ⟨⟨k + 1, S, vh, mk, true, by omega, rfl, rfl, by go_num, hS5, hR.next, hb5⟩, by simp only [intOf]; omega⟩
              · have hN : sampN S x.t = 0 := by unfold sampN; rw [hpf, if_neg (by decide), if_neg hho]
                have hO : sampO S x.t x.y x.v = ⟨S.nx, 1, x.t, x.y, x.v⟩ := by unfold sampO; rw [if_pos hN]
                rw [hN, hO] at hcs
                unfold opV opA at hcs
                rw [show errV 0 = .nilIface from rfl] at hcs
                dsimp only at hcs
                go_upto_region 17 with (first
                  | (go_at_call 20; refine hcs.mono ?_; rintro e W4 ⟨rfl, b4⟩; have hX4 := hX3.keep b4)
                  | (refine st_op rfl rfl (k1 := ⟨S.nx, 1, x.t, x.y, x.v⟩) hX4 rfl rfl ?_; intro W5 hX5 C5))
                have hS4 := hS3.keep b4
                have hS5 := hS4.chgP hX4 hfr C5
                have hb5 := (hb3.trans (b4.mono hb3.size)).trans (C5.below hBP)
                have hBo5 := (hBo3.keep b4).chg C5 hPo
                have z1 : W5.cell? ⟨wr.heap.size, 1, none⟩ = some (.int .i64 x.t) := hBo5.at rfl
                have z0 : W5.cell? ⟨wr.heap.size, 0, none⟩ = some (.int .i64 x.kd) := hBo5.at rfl
                clear hcs b4 hX4 C5 hS4 hS3 hX3 hBo3 hb3 y0 y1 y2 y3
                obtain ⟨p1, hR6, hnx6⟩ := hR.samp x.t x.y x.v hN
                have hn0 := hS5.ok.n0
                have hn1 := hS5.ok.n1
                have hfit : Fit5 ⟨S.nx, 1, x.t, x.y, x.v⟩ := ⟨by unfold J64; dsimp only; omega, by unfold J64; dsimp only; omega, hxf.t, hxf.y, hxf.v⟩
                have hlh : S.ho.length < 100000 := by have h1 := hR.len; have h2 := hS5.ok.h1; have h3 := hR.hd; omega
                have hnb : S.nx < 9223372036854775806 := by have h1 := hR.nx; omega
                have hcp := sput_any ⟨S.nx, 1, x.t, x.y, x.v⟩ W5 hS5 hfit (by omega) hlh
                have hlh2 : (putS S ⟨S.nx, 1, x.t, x.y, x.v⟩).ho.length < 100000 := by have h1 := hR6.len; have h2 := hS5.ok.h1; have h3 := hR.hd; omega
                obtain ⟨p2, p3⟩ := put_again (o := ⟨S.nx, 1, x.t, x.y, x.v⟩) hnx6 rfl
                generalize hT : putS S ⟨S.nx, 1, x.t, x.y, x.v⟩ = T at *
                clear hT
                rw [p1] at hcp
                unfold opV opA at hcp
                rw [show errV 0 = .nilIface from rfl] at hcp
                dsimp only at hcp
                have u0 : W5.cell? ⟨A1.heap.size, 0, none⟩ = some (.int .i64 (S.nx)) := hX5.at rfl
                have u1 : W5.cell? ⟨A1.heap.size, 1, none⟩ = some (.int .i64 (1)) := hX5.at rfl
                have u2 : W5.cell? ⟨A1.heap.size, 2, none⟩ = some (.int .i64 (x.t)) := hX5.at rfl
                have u3 : W5.cell? ⟨A1.heap.size, 3, none⟩ = some (.int .i64 (x.y)) := hX5.at rfl
                have u4 : W5.cell? ⟨A1.heap.size, 4, none⟩ = some (.int .i64 (x.v)) := hX5.at rfl
                have hla : lastV T = .tuple #[.int .i64 T.mr.s, .int .i64 (mk), .bool true] := by unfold lastV; rw [hR6.md, if_pos rfl, hR6.mt rfl]
                have HNX : Hid (T.nx = S.nx + 1) := hnx6
                have HP2 : Hid (putN T ⟨S.nx, 1, x.t, x.y, x.v⟩ = 2 ∧ putS T ⟨S.nx, 1, x.t, x.y, x.v⟩ = T) := ⟨p2, p3⟩
                have HLA : Hid (lastV T = .tuple #[.int .i64 T.mr.s, .int .i64 (mk), .bool true]) := hla
                clear p1 p2 p3 hnx6 hla
                go_wp2_with (first
                  | (go_at_call 15; refine hcp.mono ?_; rintro e W6 ⟨rfl, vh6, h6, m6⟩; have hX6 := hX5.frm m6.frm hfr; have hfr6 := m6.out hfr hX5.lt; have hBo6 := hBo5.frm m6.frm hfr0; have hfo6 := m6.out hfr0 hBo5.lt; have hb6 := hS5.frmB m6 hb5 rfl; have v0 : W6.cell? ⟨A1.heap.size, 0, none⟩ = some (.int .i64 (S.nx)) := hX6.at rfl; have v1 : W6.cell? ⟨A1.heap.size, 1, none⟩ = some (.int .i64 (1)) := hX6.at rfl; have v2 : W6.cell? ⟨A1.heap.size, 2, none⟩ = some (.int .i64 (x.t)) := hX6.at rfl; have v3 : W6.cell? ⟨A1.heap.size, 3, none⟩ = some (.int .i64 (x.y)) := hX6.at rfl; have v4 : W6.cell? ⟨A1.heap.size, 4, none⟩ = some (.int .i64 (x.v)) := hX6.at rfl; have hsn6 := snext_any W6 h6; rw [HNX.out] at hsn6; have hcq := sput_any ⟨S.nx, 1, x.t, x.y, x.v⟩ W6 h6 hfit (by rw [HNX.out]; omega) hlh2; rw [HP2.out.1, HP2.out.2] at hcq; unfold opV opA at hcq; rw [show errV 2 = Err 2 from rfl] at hcq; dsimp only at hcq)
                  | (go_at_call 16; refine hsn6.mono ?_; rintro e W6' ⟨rfl, hW6⟩; subst W6')
                  | (go_at_call 15; refine hcq.mono ?_; rintro e W7 ⟨rfl, vh7, h7, m7⟩; have hBo7 := hBo6.frm m7.frm hfo6; have hb7 := h6.frmB m7 hb6 rfl; have t0 : W7.cell? ⟨wr.heap.size, 0, none⟩ = some (.int .i64 x.kd) := hBo7.at rfl; have t1 : W7.cell? ⟨wr.heap.size, 1, none⟩ = some (.int .i64 x.t) := hBo7.at rfl; have hla7 := slast_any W7 h7; rw [HLA.out] at hla7)
                  | (go_at_call 22; refine hla7.mono ?_; rintro e W8 ⟨rfl, b8⟩))
                exact ⟨⟨k + 1, T, vh7, mk, true, by omega, rfl, rfl, by go_num, h7.keep b8, hR6, hb7.trans (b8.mono hb7.size)⟩, by simp only [intOf]; omega⟩
        · by_cases q1 : x.kd = 1
          · have g0 : (x.kd == 0) = false := by simp [q1]
            have g1 : (x.kd == 1) = true := by simp [q1]
            have hcs := smark_any x.t W3' hS3
            have hpas := hR.pas x.t
            clear q0 q1
            cases md
            · have hpf : pas S x.t = false := by rw [hpas]; rfl
              clear hpas
              have hN : markN S x.t = 0 := by unfold markN; rw [hpf, if_neg (by decide)]
              have hO : markO S x.t = ⟨S.nx, 2, x.t, 0, 0⟩ := by unfold markO; rw [if_pos hN]
              rw [hN, hO] at hcs
              unfold opV opA at hcs
              rw [show errV 0 = .nilIface from rfl] at hcs
              dsimp only at hcs
              go_upto_region 21 with (first
                | (go_at_call 21; refine hcs.mono ?_; rintro e W4 ⟨rfl, b4⟩; have hX4 := hX3.keep b4)
                | (refine st_op rfl rfl (k1 := ⟨S.nx, 2, x.t, 0, 0⟩) hX4 rfl rfl ?_; intro W5 hX5 C5))
              have hS4 := hS3.keep b4
              have hS5 := hS4.chgP hX4 hfr C5
              have hb5 := (hb3.trans (b4.mono hb3.size)).trans (C5.below hBP)
              have hBo5 := (hBo3.keep b4).chg C5 hPo
              have z1 : W5.cell? ⟨wr.heap.size, 1, none⟩ = some (.int .i64 x.t) := hBo5.at rfl
              have z0 : W5.cell? ⟨wr.heap.size, 0, none⟩ = some (.int .i64 x.kd) := hBo5.at rfl
              clear hcs b4 hX4 C5 hS4 hS3 hX3 hBo3 hb3 y0 y1 y2 y3
              go_quiet (fail)
              have bq := ab_drewN (Below.refl W5.heap.size W5) nq
              have hS5 := hS5.keep bq
              have hX5 := hX5.keep bq
              have hBo5 := hBo5.keep bq
              have hb5 : Below W2.heap.size W2 (W5.drewN nq) := hb5.trans (bq.mono hb5.size)
              have z1 : (W5.drewN nq).cell? ⟨wr.heap.size, 1, none⟩ = some (.int .i64 x.t) := hBo5.at rfl
              have z0 : (W5.drewN nq).cell? ⟨wr.heap.size, 0, none⟩ = some (.int .i64 x.kd) := hBo5.at rfl
              clear bq
              generalize W5.drewN nq = W5 at *
              obtain ⟨p1, hR6, hnx6⟩ := hR.mark x.t hN hS5.ok.n0
              have hn0 := hS5.ok.n0
              have hn1 := hS5.ok.n1
              have hfit : Fit5 ⟨S.nx, 2, x.t, 0, 0⟩ := ⟨by unfold J64; dsimp only; omega, by unfold J64; dsimp only; omega, hxf.t, by unfold J64; dsimp only; omega, by unfold J64; dsimp only; omega⟩
              have hlh : S.ho.length < 100000 := by have h1 := hR.len; have h2 := hS5.ok.h1; have h3 := hR.hd; omega
              have hnb : S.nx < 9223372036854775806 := by have h1 := hR.nx; omega
              have hcp := sput_any ⟨S.nx, 2, x.t, 0, 0⟩ W5 hS5 hfit (by omega) hlh
              have hlh2 : (putS S ⟨S.nx, 2, x.t, 0, 0⟩).ho.length < 100000 := by have h1 := hR6.len; have h2 := hS5.ok.h1; have h3 := hR.hd; omega
              obtain ⟨p2, p3⟩ := put_again (o := ⟨S.nx, 2, x.t, 0, 0⟩) hnx6 rfl
              generalize hT : putS S ⟨S.nx, 2, x.t, 0, 0⟩ = T at *
              clear hT
              rw [p1] at hcp
              unfold opV opA at hcp
              rw [show errV 0 = .nilIface from rfl] at hcp
              dsimp only at hcp
              have u0 : W5.cell? ⟨A1.heap.size, 0, none⟩ = some (.int .i64 (S.nx)) := hX5.at rfl
              have u1 : W5.cell? ⟨A1.heap.size, 1, none⟩ = some (.int .i64 (2)) := hX5.at rfl
              have u2 : W5.cell? ⟨A1.heap.size, 2, none⟩ = some (.int .i64 (x.t)) := hX5.at rfl
              have u3 : W5.cell? ⟨A1.heap.size, 3, none⟩ = some (.int .i64 (0)) := hX5.at rfl
              have u4 : W5.cell? ⟨A1.heap.size, 4, none⟩ = some (.int .i64 (0)) := hX5.at rfl
              have hla : lastV T = .tuple #[.int .i64 T.mr.s, .int .i64 (x.t), .bool true] := by unfold lastV; rw [hR6.md, if_pos rfl, hR6.mt rfl]
              have HNX : Hid (T.nx = S.nx + 1) := hnx6
              have HP2 : Hid (putN T ⟨S.nx, 2, x.t, 0, 0⟩ = 2 ∧ putS T ⟨S.nx, 2, x.t, 0, 0⟩ = T) := ⟨p2, p3⟩
              have HLA : Hid (lastV T = .tuple #[.int .i64 T.mr.s, .int .i64 (x.t), .bool true]) := hla
              clear p1 p2 p3 hnx6 hla
              go_wp2_with (first
                | (go_at_call 15; refine hcp.mono ?_; rintro e W6 ⟨rfl, vh6, h6, m6⟩; have hX6 := hX5.frm m6.frm hfr; have hfr6 := m6.out hfr hX5.lt; have hBo6 := hBo5.frm m6.frm hfr0; have hfo6 := m6.out hfr0 hBo5.lt; have hb6 := hS5.frmB m6 hb5 rfl; have v0 : W6.cell? ⟨A1.heap.size, 0, none⟩ = some (.int .i64 (S.nx)) := hX6.at rfl; have v1 : W6.cell? ⟨A1.heap.size, 1, none⟩ = some (.int .i64 (2)) := hX6.at rfl; have v2 : W6.cell? ⟨A1.heap.size, 2, none⟩ = some (.int .i64 (x.t)) := hX6.at rfl; have v3 : W6.cell? ⟨A1.heap.size, 3, none⟩ = some (.int .i64 (0)) := hX6.at rfl; have v4 : W6.cell? ⟨A1.heap.size, 4, none⟩ = some (.int .i64 (0)) := hX6.at rfl; have hsn6 := snext_any W6 h6; rw [HNX.out] at hsn6; have hcq := sput_any ⟨S.nx, 2, x.t, 0, 0⟩ W6 h6 hfit (by rw [HNX.out]; omega) hlh2; rw [HP2.out.1, HP2.out.2] at hcq; unfold opV opA at hcq; rw [show errV 2 = Err 2 from rfl] at hcq; dsimp only at hcq)
                | (go_at_call 16; refine hsn6.mono ?_; rintro e W6' ⟨rfl, hW6⟩; subst W6')
                | (go_at_call 15; refine hcq.mono ?_; rintro e W7 ⟨rfl, vh7, h7, m7⟩; have hBo7 := hBo6.frm m7.frm hfo6; have hb7 := h6.frmB m7 hb6 rfl; have t0 : W7.cell? ⟨wr.heap.size, 0, none⟩ = some (.int .i64 x.kd) := hBo7.at rfl; have t1 : W7.cell? ⟨wr.heap.size, 1, none⟩ = some (.int .i64 x.t) := hBo7.at rfl; have hla7 := slast_any W7 h7; rw [HLA.out] at hla7)
                | (go_at_call 22; refine hla7.mono ?_; rintro e W8 ⟨rfl, b8⟩))
              exact ⟨⟨k + 1, T, vh7, x.t, true, by omega, rfl, rfl, by go_num, h7.keep b8, hR6, hb7.trans (b8.mono hb7.size)⟩, by simp only [intOf]; omega⟩
            · by_cases hlt2 : x.t < mk
              · have hpt : pas S x.t = true := by rw [hpas]; simp [hlt2]
                have hN : markN S x.t = 9 := by unfold markN; rw [hpt, if_pos rfl]
                have hO : markO S x.t = zOp := by unfold markO; rw [hN, if_neg (by decide)]
                clear hpas hpt
                rw [hN, hO] at hcs
                unfold opV opA zOp at hcs
                rw [show errV 9 = Err 9 from rfl] at hcs
                dsimp only at hcs
                go_upto_region 21 with (first
                  | (go_at_call 21; refine hcs.mono ?_; rintro e W4 ⟨rfl, b4⟩; have hX4 := hX3.keep b4)
                  | (refine st_op rfl rfl (k1 := zOp) hX4 rfl rfl ?_; intro W5 hX5 C5))
                have hS4 := hS3.keep b4
                have hS5 := hS4.chgP hX4 hfr C5
                have hb5 := (hb3.trans (b4.mono hb3.size)).trans (C5.below hBP)
                have hBo5 := (hBo3.keep b4).chg C5 hPo
                have z1 : W5.cell? ⟨wr.heap.size, 1, none⟩ = some (.int .i64 x.t) := hBo5.at rfl
                have z0 : W5.cell? ⟨wr.heap.size, 0, none⟩ = some (.int .i64 x.kd) := hBo5.at rfl
                clear hcs b4 hX4 C5 hS4 hS3 hX3 hBo3 hb3 y0 y1 y2 y3
                go_quiet (fail)
                have bq := ab_drewN (Below.refl W5.heap.size W5) nq
                have hS5 := hS5.keep bq
                have hX5 := hX5.keep bq
                have hBo5 := hBo5.keep bq
                have hb5 : Below W2.heap.size W2 (W5.drewN nq) := hb5.trans (bq.mono hb5.size)
                have z1 : (W5.drewN nq).cell? ⟨wr.heap.size, 1, none⟩ = some (.int .i64 x.t) := hBo5.at rfl
                have z0 : (W5.drewN nq).cell? ⟨wr.heap.size, 0, none⟩ = some (.int .i64 x.kd) := hBo5.at rfl
                clear bq
                generalize W5.drewN nq = W5 at *
                have hsn := snext_any W5 hS5
                go_wp2_with (go_at_call 16; refine hsn.mono ?_; rintro e W6 ⟨rfl, hW6⟩; subst W6)
                exact ⟨⟨k + 1, S, vh, mk, true, by omega, rfl, rfl, by go_num, hS5, hR.next, hb5⟩, by simp only [intOf]; omega⟩
              · have hpf : pas S x.t = false := by rw [hpas]; simp [hlt2]
                clear hpas
                have hN : markN S x.t = 0 := by unfold markN; rw [hpf, if_neg (by decide)]
                have hO : markO S x.t = ⟨S.nx, 2, x.t, 0, 0⟩ := by unfold markO; rw [if_pos hN]
                rw [hN, hO] at hcs
                unfold opV opA at hcs
                rw [show errV 0 = .nilIface from rfl] at hcs
                dsimp only at hcs
                go_upto_region 21 with (first
                  | (go_at_call 21; refine hcs.mono ?_; rintro e W4 ⟨rfl, b4⟩; have hX4 := hX3.keep b4)
                  | (refine st_op rfl rfl (k1 := ⟨S.nx, 2, x.t, 0, 0⟩) hX4 rfl rfl ?_; intro W5 hX5 C5))
                have hS4 := hS3.keep b4
                have hS5 := hS4.chgP hX4 hfr C5
                have hb5 := (hb3.trans (b4.mono hb3.size)).trans (C5.below hBP)
                have hBo5 := (hBo3.keep b4).chg C5 hPo
                have z1 : W5.cell? ⟨wr.heap.size, 1, none⟩ = some (.int .i64 x.t) := hBo5.at rfl
                have z0 : W5.cell? ⟨wr.heap.size, 0, none⟩ = some (.int .i64 x.kd) := hBo5.at rfl
                clear hcs b4 hX4 C5 hS4 hS3 hX3 hBo3 hb3 y0 y1 y2 y3
                go_quiet (fail)
                have bq := ab_drewN (Below.refl W5.heap.size W5) nq
                have hS5 := hS5.keep bq
                have hX5 := hX5.keep bq
                have hBo5 := hBo5.keep bq
                have hb5 : Below W2.heap.size W2 (W5.drewN nq) := hb5.trans (bq.mono hb5.size)
                have z1 : (W5.drewN nq).cell? ⟨wr.heap.size, 1, none⟩ = some (.int .i64 x.t) := hBo5.at rfl
                have z0 : (W5.drewN nq).cell? ⟨wr.heap.size, 0, none⟩ = some (.int .i64 x.kd) := hBo5.at rfl
                clear bq
                generalize W5.drewN nq = W5 at *
                obtain ⟨p1, hR6, hnx6⟩ := hR.mark x.t hN hS5.ok.n0
                have hn0 := hS5.ok.n0
                have hn1 := hS5.ok.n1
                have hfit : Fit5 ⟨S.nx, 2, x.t, 0, 0⟩ := ⟨by unfold J64; dsimp only; omega, by unfold J64; dsimp only; omega, hxf.t, by unfold J64; dsimp only; omega, by unfold J64; dsimp only; omega⟩
                have hlh : S.ho.length < 100000 := by have h1 := hR.len; have h2 := hS5.ok.h1; have h3 := hR.hd; omega
                have hnb : S.nx < 9223372036854775806 := by have h1 := hR.nx; omega
                have hcp := sput_any ⟨S.nx, 2, x.t, 0, 0⟩ W5 hS5 hfit (by omega) hlh
                have hlh2 : (putS S ⟨S.nx, 2, x.t, 0, 0⟩).ho.length < 100000 := by have h1 := hR6.len; have h2 := hS5.ok.h1; have h3 := hR.hd; omega
                obtain ⟨p2, p3⟩ := put_again (o := ⟨S.nx, 2, x.t, 0, 0⟩) hnx6 rfl
                generalize hT : putS S ⟨S.nx, 2, x.t, 0, 0⟩ = T at *
                clear hT
                rw [p1] at hcp
                unfold opV opA at hcp
                rw [show errV 0 = .nilIface from rfl] at hcp
                dsimp only at hcp
                have u0 : W5.cell? ⟨A1.heap.size, 0, none⟩ = some (.int .i64 (S.nx)) := hX5.at rfl
                have u1 : W5.cell? ⟨A1.heap.size, 1, none⟩ = some (.int .i64 (2)) := hX5.at rfl
                have u2 : W5.cell? ⟨A1.heap.size, 2, none⟩ = some (.int .i64 (x.t)) := hX5.at rfl
                have u3 : W5.cell? ⟨A1.heap.size, 3, none⟩ = some (.int .i64 (0)) := hX5.at rfl
                have u4 : W5.cell? ⟨A1.heap.size, 4, none⟩ = some (.int .i64 (0)) := hX5.at rfl
                have hla : lastV T = .tuple #[.int .i64 T.mr.s, .int .i64 (x.t), .bool true] := by unfold lastV; rw [hR6.md, if_pos rfl, hR6.mt rfl]
                have HNX : Hid (T.nx = S.nx + 1) := hnx6
                have HP2 : Hid (putN T ⟨S.nx, 2, x.t, 0, 0⟩ = 2 ∧ putS T ⟨S.nx, 2, x.t, 0, 0⟩ = T) := ⟨p2, p3⟩
                have HLA : Hid (lastV T = .tuple #[.int .i64 T.mr.s, .int .i64 (x.t), .bool true]) := hla
                clear p1 p2 p3 hnx6 hla
                go_wp2_with (first
                  | (go_at_call 15; refine hcp.mono ?_; rintro e W6 ⟨rfl, vh6, h6, m6⟩; have hX6 := hX5.frm m6.frm hfr; have hfr6 := m6.out hfr hX5.lt; have hBo6 := hBo5.frm m6.frm hfr0; have hfo6 := m6.out hfr0 hBo5.lt; have hb6 := hS5.frmB m6 hb5 rfl; have v0 : W6.cell? ⟨A1.heap.size, 0, none⟩ = some (.int .i64 (S.nx)) := hX6.at rfl; have v1 : W6.cell? ⟨A1.heap.size, 1, none⟩ = some (.int .i64 (2)) := hX6.at rfl; have v2 : W6.cell? ⟨A1.heap.size, 2, none⟩ = some (.int .i64 (x.t)) := hX6.at rfl; have v3 : W6.cell? ⟨A1.heap.size, 3, none⟩ = some (.int .i64 (0)) := hX6.at rfl; have v4 : W6.cell? ⟨A1.heap.size, 4, none⟩ = some (.int .i64 (0)) := hX6.at rfl; have hsn6 := snext_any W6 h6; rw [HNX.out] at hsn6; have hcq := sput_any ⟨S.nx, 2, x.t, 0, 0⟩ W6 h6 hfit (by rw [HNX.out]; omega) hlh2; rw [HP2.out.1, HP2.out.2] at hcq; unfold opV opA at hcq; rw [show errV 2 = Err 2 from rfl] at hcq; dsimp only at hcq)
                  | (go_at_call 16; refine hsn6.mono ?_; rintro e W6' ⟨rfl, hW6⟩; subst W6')
                  | (go_at_call 15; refine hcq.mono ?_; rintro e W7 ⟨rfl, vh7, h7, m7⟩; have hBo7 := hBo6.frm m7.frm hfo6; have hb7 := h6.frmB m7 hb6 rfl; have t0 : W7.cell? ⟨wr.heap.size, 0, none⟩ = some (.int .i64 x.kd) := hBo7.at rfl; have t1 : W7.cell? ⟨wr.heap.size, 1, none⟩ = some (.int .i64 x.t) := hBo7.at rfl; have hla7 := slast_any W7 h7; rw [HLA.out] at hla7)
                  | (go_at_call 22; refine hla7.mono ?_; rintro e W8 ⟨rfl, b8⟩))
                exact ⟨⟨k + 1, T, vh7, x.t, true, by omega, rfl, rfl, by go_num, h7.keep b8, hR6, hb7.trans (b8.mono hb7.size)⟩, by simp only [intOf]; omega⟩
          · by_cases q3 : x.kd = 3
            · have g0 : (x.kd == 0) = false := by simp [q3]
              have g1 : (x.kd == 1) = false := by simp [q3]
              have g3 : (x.kd == 3) = true := by simp [q3]
              have y9 : W3'.cell? ⟨wr.heap.size, 9, none⟩ = some (.slice qx x.ps.length cx) := hBo3.at rfl
              have hp3 := hpx.keep (ab_trans hW2 hb3)
              clear q0 q1 q3
              by_cases hla : (x.ps.length : Int) = lanS S
              · have hlan := hS3.ok.lan
                have hc3 := scut_ok _ x.ps W3' hS3 hp3 (hpx.outB (by omega) (fun r hr => Nat.le_trans hW2.size (hS3.bkge (.inr (.inr hr))).1)) hla hxf.ps
                clear hla hlan
                go_wp2_with (first
                  | (go_at_call 17; refine hc3.mono ?_; rintro e W5 ⟨rfl, vh5, h5, m5⟩; have hsn := snext_any W5 h5; rw [show (cutS S x.ps).nx = S.nx from rfl] at hsn)
                  | (go_at_call 16; refine hsn.mono ?_; rintro e W6 ⟨rfl, hW6⟩; subst W6))
                exact ⟨⟨k + 1, _, vh5, mk, md, by omega, rfl, rfl, by go_num, h5, hR.cut x.ps, hS3.frmB m5 hb3 rfl⟩, by simp only [intOf]; omega⟩
              · have hc3 := scut_no _ x.ps W3' hS3 hp3 hla
                clear hla
                go_wp2_with (first
                  | (go_at_call 17; refine hc3.mono ?_; rintro e W5 ⟨rfl, b5⟩; have h5 := hS3.keep b5; have hsn := snext_any W5 h5)
                  | (go_at_call 16; refine hsn.mono ?_; rintro e W6 ⟨rfl, hW6⟩; subst W6))
                exact ⟨⟨k + 1, S, vh, mk, md, by omega, rfl, rfl, by go_num, h5, hR.next, hb3.trans (b5.mono hb3.size)⟩, by simp only [intOf]; omega⟩
            · have g0 : (x.kd == 0) = false := by simp [q0]
              have g1 : (x.kd == 1) = false := by simp [q1]
              have g3 : (x.kd == 3) = false := by simp [q3]
              have hsn := snext_any W3' hS3
              clear q0 q1 q3
              go_wp2_with (go_at_call 16; refine hsn.mono ?_; rintro e W6 ⟨rfl, hW6⟩; subst W6)
              exact ⟨⟨k + 1, S, vh, mk, md, by omega, rfl, rfl, by go_num, hS3, hR.next, hb3⟩, by simp only [intOf]; omega⟩
end Go.Proofs.Ytndmigjbdmkjdaa.streamRises
