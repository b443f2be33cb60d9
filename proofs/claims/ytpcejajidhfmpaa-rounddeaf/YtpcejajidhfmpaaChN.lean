/-
  change.Newest and the document's.
-/
import Derived.Test.YtpcejajidhfmpaaChL
import Derived.Test.YtpcejajidhfmpaaBlC
namespace Go.Proofs.Ytpcejajidhfmpaa
open Go.RowKit
set_option linter.unusedVariables false

def nwS (b x : Bt × List Int) : Bt × List Int := if lt3 b.1 x.1 then x else b
def nwK (xs : List (Bt × List Int)) : Bt × List Int := xs.foldl nwS (zB, [])
def keyR (r : RrD) : Bt × List Int := (r.a, r.l)
def nwN (os : List RrD) (j : Nat) : Bt × List Int := nwK ((os.take j).map keyR)
def nwL (os : List RrD) : List Int := (nwK (os.map keyR)).2
theorem nw_0 (os : List RrD) : nwN os 0 = (zB, []) := rfl
theorem nw_next {os : List RrD} {j : Nat} {r : RrD} (h : os[j]? = some r) : nwN os (j + 1) = nwS (nwN os j) (keyR r) := by
  unfold nwN nwK
  rw [List.take_add_one, h, List.map_append, List.foldl_append]
  rfl
theorem nw_yes {os : List RrD} {j : Nat} {r : RrD} {a : Bt} {l : List Int} (h : os[j]? = some r) (hn : nwN os j = (a, l)) (hl : lt3 a r.a = true) : nwN os (j + 1) = (r.a, r.l) := by
  rw [nw_next h, hn]
  show (if lt3 a r.a = true then keyR r else (a, l)) = _
  rw [if_pos hl]
  rfl
theorem nw_no {os : List RrD} {j : Nat} {r : RrD} {a : Bt} {l : List Int} (h : os[j]? = some r) (hn : nwN os j = (a, l)) (hl : lt3 a r.a = false) : nwN os (j + 1) = (a, l) := by
  rw [nw_next h, hn]
  show (if lt3 a r.a = true then keyR r else (a, l)) = _
  rw [if_neg (by rw [hl]; simp)]
theorem nw_end {os : List RrD} {j : Nat} {a : Bt} {l : List Int} (hj : os.length = j) (hn : nwN os j = (a, l)) : l = nwL os := by
  unfold nwN at hn
  rw [List.take_of_length_le (by omega)] at hn
  unfold nwL
  rw [hn]
theorem nwK_or (xs : List (Bt × List Int)) (b : Bt × List Int) : xs.foldl nwS b = b ∨ xs.foldl nwS b ∈ xs := by
  induction xs generalizing b with
  | nil => exact .inl rfl
  | cons x xs ih =>
    rw [List.foldl_cons]
    rcases ih (nwS b x) with h | h
    · rw [h]
      unfold nwS
      split
      · exact .inr (List.mem_cons_self ..)
      · exact .inl rfl
    · exact .inr (List.mem_cons_of_mem _ h)
theorem nwL_le {os : List RrD} {N : Nat} (h : ∀ r ∈ os, r.l.length ≤ N) : (nwL os).length ≤ N := by
  unfold nwL nwK
  rcases nwK_or (os.map keyR) (zB, []) with e | e
  · rw [e]; simp
  · obtain ⟨r, hr, e2⟩ := List.mem_map.1 e
    rw [← e2]
    exact h r hr
theorem nwL_same {os ps : List RrD} (h : os.map keyR = ps.map keyR) : nwL os = nwL ps := by unfold nwL; rw [h]
set_option maxHeartbeats 2000000 in
set_option maxRecDepth 100000 in
theorem newest_any (q : Option Addr) (n cap g off : Nat) (os : List RrD) (w : World) (hs : RrRow w q n cap g off os) (hz : (nwL os).length ≤ 100000) :
    Calls Try.prog 46 #[.slice q n cap] w fun e w' => ∃ v', e = .returned v' ∧ Io w' w.heap.size v' (nwL os) ∧ Below w.heap.size w w' := by
  go_enter Try.func46, Try.ntmps46
  go_upto_region 2 with fail
  obtain ⟨A, hAe, hB, hw⟩ := blk1 w (rC zB zB (.slice none 0 0)) 61
  rw [show w.alloc (.cells #[.int .i64 0, .int .i64 0, .int .i64 0, .int .i64 0, .int .i64 0, .int .i64 0, .slice none 0 0] 61) = A from hAe]
  clear hAe
  go_wp2_with fail
  go_loopw [8] (fun i wr => ∃ (j : Nat) (p a : Bt) (qx : Option Addr) (nx cx : Nat) (lst : List Int), j ≤ n ∧ i = .int .i64 (j : Int) ∧ Blk wr w.heap.size (rC p a (.slice qx nx cx)) 61 ∧ Is wr (.slice qx nx cx) lst ∧ nwN os j = (a, lst) ∧ Below w.heap.size w wr) (fun i _ => n - (intOf i).toNat)
  case atStart => exact ⟨0, zB, zB, none, 0, 0, [], by omega, rfl, hB, Is.nil _, nw_0 os, hw⟩
  case round =>
    obtain ⟨j, p, a, qx, nx, cx, lst, hj, rfl, hX, hI, hN, hb⟩ := hrel
    clear hB hw
    have hlen := hs.len
    by_cases cj : j = n
    · subst cj
      have HL : Hid (lst = nwL os) := nw_end hlen hN
      have z6 : wr.cell? ⟨w.heap.size, 6, none⟩ = some (.slice qx nx cx) := hX.at rfl
      have hl2 : lst.length ≤ 100000 := by have := HL.out; rw [this]; exact hz
      have zb := hb.size
      clear hs hX hN
      go_wp2_with fail
      refine (gclone_any _ lst _ hI hl2).mono ?_
      rintro e W2 ⟨v', rfl, hO, b2⟩
      go_wp2_with fail
      go_ret
      refine ⟨_, rfl, ?_, ab_trans hb b2⟩
      rw [← HL.out]
      exact hO.less zb
    · have hjn : j < n := by omega
      have hji : (j : Int) < (n : Int) := by omega
      obtain ⟨⟨rp, ra, rv, rl⟩, hr⟩ : ∃ r, os[j]? = some r := ⟨os[j]'(by omega), List.getElem?_eq_getElem _⟩
      have hg := hs.lt (by omega)
      have hr0 := (hs.row j _ hr).sl.1
      obtain ⟨d0, d1, d2, d3, d4, d5, d6, ⟨sr, -⟩⟩ := (hs.row j _ hr).keep hg hb
      obtain rfl := hs.ptr (by omega)
      have hfit := hs.fits
      have hmx := hs.max
      have HY := fun h => nw_yes hr hN h
      have HX := fun h => nw_no hr hN h
      dsimp only at d0 d1 d2 d3 d4 d5 d6 sr hr0 HY HX
      obtain ⟨qr, cr, e⟩ := sr.form
      subst e
      obtain ⟨nr, hnr⟩ : ∃ n, rl.length = n := ⟨_, rfl⟩
      rw [hnr] at sr d6 hr0
      have HY : Hid _ := HY
      have HX : Hid _ := HX
      clear hs hr hN hg
      go_upto_region 5 with fail
      obtain ⟨V, hE, hR, hbV⟩ := blk1 wr (rC rp ra (.slice qr nr cr)) 61
      rw [hE]
      have hXV := hX.keep hbV
      obtain ⟨x0, x1, x2, x3, x4, x5, x6⟩ := cells7 hXV
      obtain ⟨y0, y1, y2, y3, y4, y5, y6⟩ := cells7 hR
      have hbv := Below.refl V.heap.size V
      have hbw := ab_trans hb hbV
      have hlt := hX.lt
      clear hE d0 d1 d2 d3 d4 d5 d6 hX
      go_wp2_with fail
      refine (bless_any a ra _).mono ?_
      rintro e W1 ⟨rfl, b1⟩
      have hbv := b1
      have hbw1 := ab_trans hbw b1
      cases h1 : lt3 a ra
      · have HX1 : Hid (nwN os (j + 1) = (a, lst)) := HX.out h1
        have HI : Hid (Is W1 (.slice qx nx cx) lst) := hI.keep (ab_trans hbV b1)
        have HB : Hid (Blk W1 w.heap.size (rC p a (.slice qx nx cx)) 61) := hXV.keep b1
        clear hI hXV hR HX HY h1
        go_wp2_with fail
        exact ⟨⟨j + 1, p, a, qx, nx, cx, lst, by omega, rfl, HB.out, HI.out, HX1.out, hbw1⟩, by simp only [intOf]; omega⟩
      · have HX1 : Hid (nwN os (j + 1) = (ra, rl)) := HY.out h1
        have hB1 := hXV.keep b1
        clear hI hXV hR HX HY h1
        go_wp2_with (refine st_rg rfl rfl (p1 := rp) (a1 := ra) hB1 rfl rfl ?_; intro W5 hB5 C5)
        have hb5 := ab_chg hbw1 C5 (Nat.le_refl _)
        exact ⟨⟨j + 1, rp, ra, qr, nr, cr, rl, by omega, rfl, hB5, hr0.keep hb5, HX1.out, hb5⟩, by simp only [intOf]; omega⟩
set_option maxHeartbeats 2000000 in
set_option maxRecDepth 100000 in
theorem newestR_any (q : Option Addr) (n cap g off : Nat) (os : List RrD) (w : World) (hs : RrRow w q n cap g off os) :
    Calls Try.prog 42 #[.slice q n cap] w fun e w' => ∃ v', e = .returned v' ∧ Is w' v' (nwL os) ∧ Below w.heap.size w w' := by
  go_enter Try.func42, Try.ntmps42
  go_upto_region 2 with fail
  obtain ⟨A, hAe, hB, hw⟩ := blk1 w (rC zB zB (.slice none 0 0)) 61
  rw [show w.alloc (.cells #[.int .i64 0, .int .i64 0, .int .i64 0, .int .i64 0, .int .i64 0, .int .i64 0, .slice none 0 0] 61) = A from hAe]
  clear hAe
  go_wp2_with fail
  go_loopw [4] (fun i wr => ∃ (j : Nat) (p a : Bt) (qx : Option Addr) (nx cx : Nat) (lst : List Int), j ≤ n ∧ i = .int .i64 (j : Int) ∧ Blk wr w.heap.size (rC p a (.slice qx nx cx)) 61 ∧ Is wr (.slice qx nx cx) lst ∧ nwN os j = (a, lst) ∧ Below w.heap.size w wr) (fun i _ => n - (intOf i).toNat)
  case atStart => exact ⟨0, zB, zB, none, 0, 0, [], by omega, rfl, hB, Is.nil _, nw_0 os, hw⟩
  case round =>
    obtain ⟨j, p, a, qx, nx, cx, lst, hj, rfl, hX, hI, hN, hb⟩ := hrel
    clear hB hw
    have hlen := hs.len
    by_cases cj : j = n
    · subst cj
      have HL : Hid (lst = nwL os) := nw_end hlen hN
      have z6 : wr.cell? ⟨w.heap.size, 6, none⟩ = some (.slice qx nx cx) := hX.at rfl
      clear hs hX hN
      go_wp2_with fail
      go_ret
      refine ⟨_, rfl, ?_, hb⟩
      rw [← HL.out]
      exact hI
    · have hjn : j < n := by omega
      have hji : (j : Int) < (n : Int) := by omega
      obtain ⟨⟨rp, ra, rv, rl⟩, hr⟩ : ∃ r, os[j]? = some r := ⟨os[j]'(by omega), List.getElem?_eq_getElem _⟩
      have hg := hs.lt (by omega)
      have hgw : g < wr.heap.size := Nat.lt_of_lt_of_le hg hb.size
      have hr0 := (hs.row j _ hr).sl.1
      have hrow := (hs.row j _ hr).keep hg hb
      obtain rfl := hs.ptr (by omega)
      have hfit := hs.fits
      have hmx := hs.max
      have HY := fun h => nw_yes hr hN h
      have HX := fun h => nw_no hr hN h
      dsimp only at hr0 HY HX
      obtain ⟨qr, cr, e⟩ := hr0.form
      subst e
      obtain ⟨nr, hnr⟩ : ∃ n, rl.length = n := ⟨_, rfl⟩
      have HY : Hid _ := HY
      have HX : Hid _ := HX
      rw [hnr] at hr0 hrow
      have DR : ∀ W, Below wr.heap.size wr W → RrAt W g (off + j * 7) ⟨rp, ra, .slice qr nr cr, rl⟩ := fun W hb => hrow.keep hgw hb
      obtain ⟨x0, x1, x2, x3, x4, x5, x6⟩ := cells7 hX
      have hlt := hX.lt
      clear hs hr hN hg hrow
      go_upto_region 5 with fail
      refine wp_region_held_drew (S := fun w' => Below wr.heap.size wr w') (by kernel_rfl) (ab_drew (Below.refl _ _)) (fun hHeld => ?_)
      refine takeH (i := 0) (some 12) rfl rfl (by kernel_rfl) (by kernel_rfl) (by kernel_rfl) (fun _ _ _ h => h) (by rfl) (fun w hSw => by (try dsimp only at hSw); go_simp; try rfl) hHeld ?_
      go_frame
      refine takeH (i := 1) (some 13) rfl rfl (by kernel_rfl) (by kernel_rfl) (by kernel_rfl) (fun _ _ _ h => h) (by rfl) (fun w hSw => by (try dsimp only at hSw); have y3 := x3 _ hSw; have y4 := x4 _ hSw; have y5 := x5 _ hSw; go_simp; try rfl) hHeld ?_
      go_frame
      refine takeH (i := 2) (some 14) rfl rfl (by kernel_rfl) (by kernel_rfl) (by kernel_rfl) (fun _ _ _ h => h) (by rfl) (fun w hSw => by (try dsimp only at hSw); go_simp; try rfl) hHeld ?_
      go_frame
      refine takeH (i := 3) (some 15) rfl rfl (by kernel_rfl) (by kernel_rfl) (by kernel_rfl) (fun _ _ _ h => h) (by rfl) (fun w hSw => by (try dsimp only at hSw); go_simp; try rfl) hHeld ?_
      go_frame
      refine takeH (i := 4) (some 16) rfl rfl (by kernel_rfl) (by kernel_rfl) (by kernel_rfl) (fun _ _ _ h => h) (by rfl) (fun w hSw => by (try dsimp only at hSw); go_simp; try rfl) hHeld ?_
      go_frame
      refine takeH (i := 5) (some 17) rfl rfl (by kernel_rfl) (by kernel_rfl) (by kernel_rfl) (fun _ _ _ h => h) (by rfl) (fun w hSw => by (try dsimp only at hSw); go_simp; try rfl) hHeld ?_
      go_frame
      refine takeH (i := 6) (some 18) rfl rfl (by kernel_rfl) (by kernel_rfl) (by kernel_rfl) (fun _ _ _ h => h) (by rfl) (fun w hSw => by (try dsimp only at hSw); obtain ⟨-, -, -, y3, y4, y5, -, -⟩ := DR _ hSw; go_simp; try rfl) hHeld ?_
      go_frame
      refine wpAnyH_ready (rs := [7]) (by kernel_rfl) (by simp) (AllReadyH.cons rfl (fun K hK => ?_) AllReadyH.nil)
      go_simp
      refine (rbless_any a ra _).mono ?_
      rintro e W1 ⟨rfl, b1⟩
      have hb1 := ab_trans hHeld b1
      show K _ _
      refine hK.out _ _ hb1 (fun hHeld => ?_)
      clear hK K
      refine wpAnyH_done (by kernel_rfl) ?_ _
      have hbw1 := ab_trans hb hb1
      cases h1 : lt3 a ra
      · have HX1 : Hid (nwN os (j + 1) = (a, lst)) := HX.out h1
        have HI : Hid (Is W1 (.slice qx nx cx) lst) := hI.keep hb1
        have HB : Hid (Blk W1 w.heap.size (rC p a (.slice qx nx cx)) 61) := hX.keep hb1
        clear hI hX HX HY h1 DR
        go_wp2_with fail
        exact ⟨⟨j + 1, p, a, qx, nx, cx, lst, by omega, rfl, HB.out, HI.out, HX1.out, hbw1⟩, by simp only [intOf]; omega⟩
      · have HX1 : Hid (nwN os (j + 1) = (ra, rl)) := HY.out h1
        have hB1 := hX.keep hb1
        obtain ⟨e0, e1, e2, e3, e4, e5, e6, -⟩ := DR _ hb1
        dsimp only at e0 e1 e2 e3 e4 e5 e6
        clear hI hX HX HY h1 DR
        go_wp2_with (refine st_rg rfl rfl (p1 := rp) (a1 := ra) hB1 rfl rfl ?_; intro W5 hB5 C5)
        have hb5 := ab_chg hbw1 C5 (Nat.le_refl _)
        exact ⟨⟨j + 1, rp, ra, qr, nr, cr, rl, by omega, rfl, hB5, hr0.keep hb5, HX1.out, hb5⟩, by simp only [intOf]; omega⟩
end Go.Proofs.Ytpcejajidhfmpaa
