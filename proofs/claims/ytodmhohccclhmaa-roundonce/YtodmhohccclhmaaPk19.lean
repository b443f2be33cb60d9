/-
  Begin, where it is refused; alive.
  Answers that a round doesn't hear.
  The document's round in memory.
-/
import Derived.Test.YtodmhohccclhmaaPk18
import Derived.Deep.MidRow
namespace Go.Proofs.Ytodmhohccclhmaa
open Go.RowKit
set_option linter.unusedVariables false
set_option maxRecDepth 100000
variable {G : Nat → Prop}

theorem beg_cases {n : Int} {x : Bt} {c : Cg} (h : begOK n x c = false) : n < 1 ∨ 5 < n ∨ (1 ≤ n ∧ n ≤ 5 ∧ asB x = false) ∨ (1 ≤ n ∧ n ≤ 5 ∧ asB x = true ∧ gdG c = false) := by
  unfold begOK at h
  by_cases h1 : 1 ≤ n
  · by_cases h2 : n ≤ 5
    · rw [decide_eq_true h1, decide_eq_true h2] at h
      cases h3 : asB x
      · exact .inr (.inr (.inl ⟨h1, h2, rfl⟩))
      · rw [h3] at h
        exact .inr (.inr (.inr ⟨h1, h2, rfl, by simpa using h⟩))
    · exact .inr (.inl (by omega))
  · exact .inl (by omega)
set_option maxHeartbeats 2000000 in
theorem begin_no (n : Int) (x : Bt) (c : Cg) (vo vn : Value) (w : World) (hok : begOK n x c = false) (ho : Is w vo c.o) (hn : Is w vn c.n) :
    Calls Try.prog 23 #[.int .i64 n, bV x, cgV c.k vo vn] w fun e w' => e = .returned (.tuple #[.pointer none, Err 2]) ∧ Below w.heap.size w w' := by
  obtain ⟨q1, c1, e⟩ := ho.form
  subst e
  obtain ⟨q2, c2, e⟩ := hn.form
  subst e
  obtain ⟨n1, hn1⟩ : ∃ n, c.o.length = n := ⟨_, rfl⟩
  obtain ⟨n2, hn2⟩ : ∃ n, c.n.length = n := ⟨_, rfl⟩
  rw [hn1, hn2]
  have HC := beg_cases hok
  have HG : gdC c.k n1 n2 = gdG c := by unfold gdG; rw [hn1, hn2]
  clear hok ho hn
  obtain ⟨k, hk⟩ : ∃ k, c.k = k := ⟨_, rfl⟩
  rw [hk] at HG ⊢
  go_enter Try.func23, Try.ntmps23
  go_upto_region 1 with fail
  obtain ⟨A, hAe, hX, hY, hw⟩ := blk2 w (bC x) (cgC k (.slice q1 n1 c1) (.slice q2 n2 c2)) 23 26
  rw [hAe]
  clear hAe
  obtain ⟨x0, x1, x2⟩ := cells3 hX
  obtain ⟨y0, y1, y2⟩ := cellsG hY
  have hbv := Below.refl A.heap.size A
  rcases HC with h | h | ⟨h1, h2, h⟩ | ⟨h1, h2, h, h3⟩
  · go_wp2_with fail
    go_ret2
    exact ⟨rfl, hw⟩
  · have i1 : ¬ n < 1 := by omega
    go_wp2_with fail
    go_ret2
    exact ⟨rfl, hw⟩
  · have i1 : ¬ n < 1 := by omega
    have i2 : ¬ 5 < n := by omega
    have HP : prN zR x = 2 := by rw [pr_zero, h]; rfl
    have E1 := gne20
    go_wp2_with fail
    refine (prepare_no zR x (.slice none 0 0) _ 2 (Is.nil _) HP (by decide)).mono ?_
    rintro e W1 ⟨q, cc, rfl, hO, b1⟩
    rw [show ((2 : Nat) : Int) = 2 from rfl]
    go_upto_region 4 with fail
    generalize hE1 : W1.alloc _ = V1
    have v1 : Below W1.heap.size W1 V1 := by rw [← hE1]; exact (Below.refl _ _).alloc (Nat.le_refl _) _
    clear hE1
    have hbv := ab_trans b1 v1
    go_wp2_with fail
    go_ret2
    exact ⟨rfl, ab_trans hw hbv⟩
  · have i1 : ¬ n < 1 := by omega
    have i2 : ¬ 5 < n := by omega
    have HP : prN zR x = 0 := by rw [pr_zero, h]; rfl
    have E1 := gne20
    have E2 := neq00
    go_wp2_with fail
    refine (prepare_ok zR x (.slice none 0 0) _ (Is.nil _) HP).mono ?_
    rintro e W1 ⟨q, cc, rfl, hO, b1⟩
    go_upto_region 4 with fail
    generalize hE1 : W1.alloc _ = V1
    have v1 : Below W1.heap.size W1 V1 := by rw [← hE1]; exact (Below.refl _ _).alloc (Nat.le_refl _) _
    clear hE1
    have hbv := ab_trans b1 v1
    go_wp2_with fail
    refine (gcheck_any k q1 n1 c1 q2 n2 c2 _).mono ?_
    rintro e W2 ⟨rfl, b2⟩
    rw [show ckN k n1 n2 = 2 from ckN_no (by rw [HG, h3]), errV_no (by decide), show ((2 : Nat) : Int) = 2 from rfl]
    have hbv := ab_trans hbv b2
    go_wp2_with fail
    go_ret2
    exact ⟨rfl, ab_trans hw hbv⟩
theorem rn_stage {W : World} {B b mp ma s : Nat} {R : Rd} (h : Rn G W B b mp ma R) (hs : R.st = s) : W.cell? ⟨b, 7, none⟩ = some (.int .i64 (s : Int)) := by
  have := (hear_cells h).2.2.2.2.1 W (Below.refl _ _)
  rw [hs] at this
  exact this
theorem rn_val {W : World} {B b mp ma : Nat} {R : Rd} (h : Rn G W B b mp ma R) : ∃ vv, W.cell? ⟨b, 10, none⟩ = some vv ∧ W.cell? ⟨b, 11, none⟩ = some (errV R.e) ∧ Ig G W B vv R.v := by
  obtain ⟨vo, vn, vv, hB, -, -, i3⟩ := h.mem
  exact ⟨vv, hB.at (i := 10) rfl, hB.at (i := 11) rfl, i3⟩
abbrev xB : Bt := ⟨1, 0, 0⟩
abbrev xC : Cg := ⟨2, [], [5]⟩
def x0R : Rd := begR 3 xB xC
def x1R : Rd := pmS x0R 0 xB zB []
def x2R : Rd := pmS x1R 2 xB zB []
def x3R : Rd := acS x2R 1 xB
def x4R : Rd := acS x3R 0 xB
theorem x_ok : begOK 3 xB xC = true := by decide +kernel
theorem x_0 : pmB x0R 0 xB = false ∧ x0R.st = 1 := by decide +kernel
theorem x_1 : pmB x1R 2 xB = true := by decide +kernel
theorem x_2 : acB x2R 1 xB = false ∧ x2R.st = 2 := by decide +kernel
theorem x_3 : acB x3R 0 xB = true := by decide +kernel
theorem x_4 : x4R.st = 3 ∧ x4R.v = [5] ∧ x4R.e = 0 := by decide +kernel
set_option maxHeartbeats 4000000 in
theorem alive11_any (w : World) : Calls Try.prog 9 #[] w fun e w' => e = .returned (.bool true) ∧ Below w.heap.size w w' := by
  go_enter Try.func9, Try.ntmps9
  go_upto_region 2 with fail
  obtain ⟨A, hAe, hX, hw⟩ := blk1 w (bC xB) 23
  rw [show w.alloc (.cells _ 23) = A from hAe]
  clear hAe
  obtain ⟨x0, x1, x2⟩ := cells3 hX
  have hbv := Below.refl A.heap.size A
  go_wp2_with (refine bs_own rfl rfl [5] (by simp only [List.map_toArray, List.map_cons, List.map_nil]; rfl) (isl1 _ _) rfl (by decide) ?_; intro W1 hN1 b1 z1; clear z1; go_frame)
  refine (begin_yes (G := fun _ => False) 3 xB xC _ _ _ x_ok (Is.nil _) (own_is hN1) (fun k h => h.elim)).mono ?_
  rintro e W2 ⟨b, mp, ma, rfl, hR, b2⟩
  have hw2 := ab_trans hw (ab_trans b1 b2)
  have hX2 := hX.keep (ab_trans b1 b2)
  have hwW : w.heap.size < W1.heap.size := Nat.lt_of_lt_of_le hX.lt b1.size
  change Rn (fun _ => False) W2 W1.heap.size b mp ma x0R at hR
  have g1 := hR.geb
  have g2 := hR.gep
  have g3 := hR.gea
  have hR2 := hR
  have zB2 : W1.heap.size ≤ W2.heap.size := b2.size
  obtain ⟨y0, y1, y2⟩ := cells3 hX2
  have hbv := Below.refl W2.heap.size W2
  have E1 := neq00
  have s0 := rn_stage hR x_0.2
  clear hX x0 x1 x2 hN1
  go_upto_region 3 with fail
  go_wp2_with fail
  refine (rstage_any b 1 _ s0).mono ?_
  rintro e Z ⟨rfl, hZ⟩
  subst Z
  go_wp2_with fail
  refine (promise_any W1.heap.size b mp ma x0R 0 xB zB zB (.slice none 0 0) [] W2 hR2 zB2 (fun k h => h.elim) (Is.nil _) (by decide)).mono ?_
  rintro e W3 ⟨rfl, hR3, F3⟩
  rw [x_0.1]
  change Rn (fun _ => False) W3 W1.heap.size b mp ma x1R at hR3
  have hX3 := hX2.frm F3 (fun h => by rcases h with e | e | e <;> omega)
  have hw3 := hw2.trans ((hR2.below F3 zB2).mono (by omega))
  have zB3 := Nat.le_trans zB2 F3.size
  obtain ⟨y0, y1, y2⟩ := cells3 hX3
  have hbv := Below.refl W3.heap.size W3
  clear hX2 F3 hR2 hR s0
  go_wp2_with fail
  refine (promise_any W1.heap.size b mp ma x1R 2 xB zB zB (.slice none 0 0) [] W3 hR3 zB3 (fun k h => h.elim) (Is.nil _) (by decide)).mono ?_
  rintro e W4 ⟨rfl, hR4, F4⟩
  rw [x_1]
  change Rn (fun _ => False) W4 W1.heap.size b mp ma x2R at hR4
  have hX4 := hX3.frm F4 (fun h => by rcases h with e | e | e <;> omega)
  have hw4 := hw3.trans ((hR3.below F4 zB3).mono (by omega))
  have zB4 := Nat.le_trans zB3 F4.size
  obtain ⟨y0, y1, y2⟩ := cells3 hX4
  have hbv := Below.refl W4.heap.size W4
  clear hX3 F4 hR3
  go_wp2_with fail
  refine (rstage_any b 2 _ (rn_stage hR4 x_2.2)).mono ?_
  rintro e Z ⟨rfl, hZ⟩
  subst Z
  go_wp2_with fail
  refine (accepted_any W1.heap.size b mp ma x2R 1 xB W4 hR4).mono ?_
  rintro e W5 ⟨rfl, hR5, F5⟩
  rw [x_2.1]
  change Rn (fun _ => False) W5 W1.heap.size b mp ma x3R at hR5
  have hX5 := hX4.frm F5 (fun h => by rcases h with e | e | e <;> omega)
  have hw5 := hw4.trans ((hR4.below F5 zB4).mono (by omega))
  have zB5 := Nat.le_trans zB4 F5.size
  obtain ⟨y0, y1, y2⟩ := cells3 hX5
  have hbv := Below.refl W5.heap.size W5
  clear hX4 F5 hR4
  go_wp2_with fail
  refine (accepted_any W1.heap.size b mp ma x3R 0 xB W5 hR5).mono ?_
  rintro e W6 ⟨rfl, hR6, F6⟩
  rw [x_3]
  change Rn (fun _ => False) W6 W1.heap.size b mp ma x4R at hR6
  have hX6 := hX5.frm F6 (fun h => by rcases h with e | e | e <;> omega)
  have hw6 := hw5.trans ((hR5.below F6 zB5).mono (by omega))
  have zB6 := Nat.le_trans zB5 F6.size
  obtain ⟨y0, y1, y2⟩ := cells3 hX6
  have hbv := Below.refl W6.heap.size W6
  clear hX5 F6 hR5
  go_wp2_with fail
  obtain ⟨vv, d10, d11, iv⟩ := rn_val hR6
  rw [x_4.2.1] at iv
  rw [x_4.2.2, errV_ok rfl] at d11
  refine (rresult_yes b vv .nilIface [5] W6 (rn_stage hR6 x_4.1) d10 d11 iv.is (by decide)).mono ?_
  rintro e W7 ⟨q, n, c, rfl, hO7, hn7, b7⟩
  have : n = 1 := hn7.symm
  subst this
  have hR7 := hR6.keep b7
  have s7 := rn_stage hR7 x_4.1
  obtain ⟨g, o, rfl, -, r7⟩ := hO7.is.at (by omega)
  have z7 : W7.cell? ⟨g, o, none⟩ = some (.int .i64 5) := r7 0 5 rfl
  have hw7 := ab_trans hw6 b7
  have E2 := geqN0
  clear hO7 r7 hR6 hR7
  go_wp2_with fail
  refine (rstage_any b 3 _ s7).mono ?_
  rintro e Z ⟨rfl, hZ⟩
  subst Z
  go_wp2_with fail
  go_ret
  exact ⟨rfl, hw7⟩
end Go.Proofs.Ytodmhohccclhmaa
namespace Go.Proofs.Ytodmhohccclhmaa
open Go.RowKit
set_option linter.unusedVariables false
set_option maxRecDepth 100000
variable {G : Nat → Prop}

set_option maxHeartbeats 1000000 in
theorem promise_deaf (B b mp ma : Nat) (R : Rd) (k : Int) (x p a : Bt) (q : Option Addr) (n c : Nat) (w : World) (h : Rn G w B b mp ma R) (hd : hearB R k x = false) :
    Calls Try.prog 19 #[rptr b, .int .i64 k, bV x, rV p a (.slice q n c)] w fun e w' => e = .returned (.bool false) ∧ Below w.heap.size w w' := by
  go_enter Try.func19, Try.ntmps19
  go_upto_region 1 with fail
  obtain ⟨A, hAe, hX, hY, hw⟩ := blk2 w (bC x) (rC p a (.slice q n c)) 23 61
  rw [hAe]
  clear hAe
  have hA := h.keep hw
  obtain ⟨c0, c1, c2, c3, c7, c8, c9⟩ := hear_cells hA
  obtain ⟨x0, x1, x2⟩ := cells3 hX
  have hbv := Below.refl A.heap.size A
  go_wp2_with fail
  refine (hears_any R b k x A (c0 _ hbv) (c1 _ hbv) (c2 _ hbv) (c3 _ hbv)).mono ?_
  rintro e W1 ⟨rfl, b1⟩
  rw [hd]
  go_wp2_with fail
  go_ret
  exact ⟨rfl, ab_trans hw b1⟩
set_option maxHeartbeats 1000000 in
theorem accepted_deaf (B b mp ma : Nat) (R : Rd) (k : Int) (x : Bt) (w : World) (h : Rn G w B b mp ma R) (hd : hearB R k x = false) :
    Calls Try.prog 20 #[rptr b, .int .i64 k, bV x] w fun e w' => e = .returned (.bool false) ∧ Below w.heap.size w w' := by
  go_enter Try.func20, Try.ntmps20
  go_upto_region 1 with fail
  obtain ⟨A, hAe, hX, hw⟩ := blk1 w (bC x) 23
  rw [hAe]
  clear hAe
  have hA := h.keep hw
  obtain ⟨c0, c1, c2, c3, c7, c8, c9⟩ := hear_cells hA
  obtain ⟨x0, x1, x2⟩ := cells3 hX
  have hbv := Below.refl A.heap.size A
  go_wp2_with fail
  refine (hears_any R b k x A (c0 _ hbv) (c1 _ hbv) (c2 _ hbv) (c3 _ hbv)).mono ?_
  rintro e W1 ⟨rfl, b1⟩
  rw [hd]
  go_wp2_with fail
  go_ret
  exact ⟨rfl, ab_trans hw b1⟩
set_option maxHeartbeats 1000000 in
theorem refused_deaf (B b mp ma : Nat) (R : Rd) (k : Int) (x g : Bt) (w : World) (h : Rn G w B b mp ma R) (hd : hearB R k x = false) :
    Calls Try.prog 21 #[rptr b, .int .i64 k, bV x, bV g] w fun e w' => e = .returned (.bool false) ∧ Below w.heap.size w w' := by
  go_enter Try.func21, Try.ntmps21
  go_upto_region 1 with fail
  obtain ⟨A, hAe, hX, hY, hw⟩ := blk2 w (bC x) (bC g) 23 23
  rw [hAe]
  clear hAe
  have hA := h.keep hw
  obtain ⟨vo, vn, vv, hB, -⟩ := hA.mem
  have e0 : ∀ x : Cls A, x.val.cell? ⟨b, 0, none⟩ = some (.int .i64 (R.n : Int)) := cls_cell (hB.at (i := 0) rfl) hB.lt
  have e1 : ∀ x : Cls A, x.val.cell? ⟨b, 1, none⟩ = some (.int .i64 R.b.n) := cls_cell (hB.at (i := 1) rfl) hB.lt
  have e2 : ∀ x : Cls A, x.val.cell? ⟨b, 2, none⟩ = some (.int .i64 R.b.nd) := cls_cell (hB.at (i := 2) rfl) hB.lt
  have e3 : ∀ x : Cls A, x.val.cell? ⟨b, 3, none⟩ = some (.int .i64 R.b.lf) := cls_cell (hB.at (i := 3) rfl) hB.lt
  have x0 : ∀ y : Cls A, y.val.cell? ⟨w.heap.size, 0, none⟩ = some (.int .i64 x.n) := cls_cell (hX.at (i := 0) rfl) hX.lt
  have x1 : ∀ y : Cls A, y.val.cell? ⟨w.heap.size, 1, none⟩ = some (.int .i64 x.nd) := cls_cell (hX.at (i := 1) rfl) hX.lt
  have x2 : ∀ y : Cls A, y.val.cell? ⟨w.heap.size, 2, none⟩ = some (.int .i64 x.lf) := cls_cell (hX.at (i := 2) rfl) hX.lt
  have HC : Hid (∀ y : Cls A, Calls Try.prog 33 #[rptr b, .int .i64 k, bV x] y.val fun e w' => e = .returned (.bool false) ∧ Below y.val.heap.size y.val w') := fun y => by rw [← hd]; exact hears_any R b k x y.val (e0 y) (e1 y) (e2 y) (e3 y)
  have HZ := cls_some A
  clear hB
  refine wp_region_below (by kernel_rfl) (by kernel_rfl) ?_
  repeat (go_big_quiet_step (first
    | (go_at_call 33; exact calls_below (HC.out _))))
  refine wpQuiet_nil ?_
  rintro _ ⟨y, rfl⟩
  obtain ⟨W2, hb⟩ := y
  dsimp only
  clear e0 e1 e2 e3 x0 x1 x2 HC HZ
  go_wp2_with fail
  go_ret
  exact ⟨rfl, ab_trans hw hb⟩
end Go.Proofs.Ytodmhohccclhmaa
namespace Go.Proofs.Ytodmhohccclhmaa
open Go.RowKit
set_option linter.unusedVariables false
set_option maxRecDepth 100000

set_option maxHeartbeats 2000000 in
set_option maxRecDepth 100000 in
theorem newestR_in (W0 : World) (q : Option Addr) (n cap g off : Nat) (os : List RrD) (w : World) (hs : RrRow w q n cap g off os) (hin : ∀ r ∈ os, Is W0 r.v r.l) :
    Calls Try.prog 42 #[.slice q n cap] w fun e w' => ∃ v', e = .returned v' ∧ Is W0 v' (nwL os) ∧ Below w.heap.size w w' := by
  go_enter Try.func42, Try.ntmps42
  go_upto_region 2 with fail
  obtain ⟨A, hAe, hB, hw⟩ := blk1 w (rC zB zB (.slice none 0 0)) 61
  rw [show w.alloc (.cells #[.int .i64 0, .int .i64 0, .int .i64 0, .int .i64 0, .int .i64 0, .int .i64 0, .slice none 0 0] 61) = A from hAe]
  clear hAe
  go_wp2_with fail
  go_loopw [4] (fun i wr => ∃ (j : Nat) (p a : Bt) (qx : Option Addr) (nx cx : Nat) (lst : List Int), j ≤ n ∧ i = .int .i64 (j : Int) ∧ Blk wr w.heap.size (rC p a (.slice qx nx cx)) 61 ∧ Is W0 (.slice qx nx cx) lst ∧ nwN os j = (a, lst) ∧ Below w.heap.size w wr) (fun i _ => n - (intOf i).toNat)
  case atStart => exact ⟨0, zB, zB, none, 0, 0, [], by omega, rfl, hB, Is.nil _, nw_0 os, hw⟩
  case round =>
    obtain ⟨j, p, a, qx, nx, cx, lst, hj, rfl, hX, hI, hN, hb⟩ := hrel
    clear hB hw
    have hlen := hs.len
    by_cases cj : j = n
    · subst cj
      have HL : Hid (lst = nwL os) := nw_end hlen hN
      have z6 : wr.cell? ⟨w.heap.size, 6, none⟩ = some (.slice qx nx cx) := hX.at rfl
      clear hs hX hN
      go_wp2_with fail
      go_ret
      refine ⟨_, rfl, ?_, hb⟩
      rw [← HL.out]
      exact hI
    · have hjn : j < n := by omega
      have hji : (j : Int) < (n : Int) := by omega
      obtain ⟨⟨rp, ra, rv, rl⟩, hr⟩ : ∃ r, os[j]? = some r := ⟨os[j]'(by omega), List.getElem?_eq_getElem _⟩
      have hg := hs.lt (by omega)
      have hgw : g < wr.heap.size := Nat.lt_of_lt_of_le hg hb.size
      have hr0 := hin _ (List.mem_of_getElem? hr)
      have hrow := (hs.row j _ hr).keep hg hb
      obtain rfl := hs.ptr (by omega)
      have hfit := hs.fits
      have hmx := hs.max
      have HY := fun h => nw_yes hr hN h
      have HX := fun h => nw_no hr hN h
      dsimp only at hr0 HY HX
      obtain ⟨qr, cr, e⟩ := hr0.form
      subst e
      obtain ⟨nr, hnr⟩ : ∃ n, rl.length = n := ⟨_, rfl⟩
      have HY : Hid _ := HY
      have HX : Hid _ := HX
      rw [hnr] at hr0 hrow
      have DR : ∀ W, Below wr.heap.size wr W → RrAt W g (off + j * 7) ⟨rp, ra, .slice qr nr cr, rl⟩ := fun W hb => hrow.keep hgw hb
      obtain ⟨x0, x1, x2, x3, x4, x5, x6⟩ := cells7 hX
      have hlt := hX.lt
      clear hs hr hN hg hrow
      go_upto_region 5 with fail
      refine wp_region_held_drew (S := fun w' => Below wr.heap.size wr w') (by kernel_rfl) (ab_drew (Below.refl _ _)) (fun hHeld => ?_)
      refine takeH (i := 0) (some 12) rfl rfl (by kernel_rfl) (by kernel_rfl) (by kernel_rfl) (fun _ _ _ h => h) (by rfl) (fun w hSw => by (try dsimp only at hSw); go_simp; try rfl) hHeld ?_
      go_frame
      refine takeH (i := 1) (some 13) rfl rfl (by kernel_rfl) (by kernel_rfl) (by kernel_rfl) (fun _ _ _ h => h) (by rfl) (fun w hSw => by (try dsimp only at hSw); have y3 := x3 _ hSw; have y4 := x4 _ hSw; have y5 := x5 _ hSw; go_simp; try rfl) hHeld ?_
      go_frame
      refine takeH (i := 2) (some 14) rfl rfl (by kernel_rfl) (by kernel_rfl) (by kernel_rfl) (fun _ _ _ h => h) (by rfl) (fun w hSw => by (try dsimp only at hSw); go_simp; try rfl) hHeld ?_
      go_frame
      refine takeH (i := 3) (some 15) rfl rfl (by kernel_rfl) (by kernel_rfl) (by kernel_rfl) (fun _ _ _ h => h) (by rfl) (fun w hSw => by (try dsimp only at hSw); go_simp; try rfl) hHeld ?_
      go_frame
      refine takeH (i := 4) (some 16) rfl rfl (by kernel_rfl) (by kernel_rfl) (by kernel_rfl) (fun _ _ _ h => h) (by rfl) (fun w hSw => by (try dsimp only at hSw); go_simp; try rfl) hHeld ?_
      go_frame
      refine takeH (i := 5) (some 17) rfl rfl (by kernel_rfl) (by kernel_rfl) (by kernel_rfl) (fun _ _ _ h => h) (by rfl) (fun w hSw => by (try dsimp only at hSw); go_simp; try rfl) hHeld ?_
      go_frame
      refine takeH (i := 6) (some 18) rfl rfl (by kernel_rfl) (by kernel_rfl) (by kernel_rfl) (fun _ _ _ h => h) (by rfl) (fun w hSw => by (try dsimp only at hSw); obtain ⟨-, -, -, y3, y4, y5, -, -⟩ := DR _ hSw; go_simp; try rfl) hHeld ?_
      go_frame
      refine wpAnyH_ready (rs := [7]) (by kernel_rfl) (by simp) (AllReadyH.cons rfl (fun K hK => ?_) AllReadyH.nil)
      go_simp
      refine (rbless_any a ra _).mono ?_
      rintro e W1 ⟨rfl, b1⟩
      have hb1 := ab_trans hHeld b1
      show K _ _
      refine hK.out _ _ hb1 (fun hHeld => ?_)
      clear hK K
      refine wpAnyH_done (by kernel_rfl) ?_ _
      have hbw1 := ab_trans hb hb1
      cases h1 : lt3 a ra
      · have HX1 : Hid (nwN os (j + 1) = (a, lst)) := HX.out h1
        have HI : Hid (Is W0 (.slice qx nx cx) lst) := hI
        have HB : Hid (Blk W1 w.heap.size (rC p a (.slice qx nx cx)) 61) := hX.keep hb1
        clear hI hX HX HY h1 DR
        go_wp2_with fail
        exact ⟨⟨j + 1, p, a, qx, nx, cx, lst, by omega, rfl, HB.out, HI.out, HX1.out, hbw1⟩, by simp only [intOf]; omega⟩
      · have HX1 : Hid (nwN os (j + 1) = (ra, rl)) := HY.out h1
        have hB1 := hX.keep hb1
        obtain ⟨e0, e1, e2, e3, e4, e5, e6, -⟩ := DR _ hb1
        dsimp only at e0 e1 e2 e3 e4 e5 e6
        clear hI hX HX HY h1 DR
        go_wp2_with (refine st_rg rfl rfl (p1 := rp) (a1 := ra) hB1 rfl rfl ?_; intro W5 hB5 C5)
        have hb5 := ab_chg hbw1 C5 (Nat.le_refl _)
        exact ⟨⟨j + 1, rp, ra, qr, nr, cr, rl, by omega, rfl, hB5, hr0, HX1.out, hb5⟩, by simp only [intOf]; omega⟩
set_option maxHeartbeats 1000000 in
theorem gdoR_in (W0 : World) (c : Cg) (vo vn v : Value) (l : List Int) (w : World) (h0 : Below W0.heap.size W0 w) (ho : Is W0 vo c.o) (hn : Is W0 vn c.n) (hv : Is W0 v l) :
    Calls Try.prog 41 #[cgV c.k vo vn, v] w fun e w' => DoI W0 (doL c l) (doN c l) e ∧ Below w.heap.size w w' := by
  obtain ⟨q1, c1, e⟩ := ho.form
  subst e
  obtain ⟨q2, c2, e⟩ := hn.form
  subst e
  obtain ⟨n1, hn1⟩ : ∃ n, c.o.length = n := ⟨_, rfl⟩
  obtain ⟨n2, hn2⟩ : ∃ n, c.n.length = n := ⟨_, rfl⟩
  rw [hn1] at ho ⊢
  rw [hn2] at hn ⊢
  have HG : gdC c.k n1 n2 = gdG c := by unfold gdG; rw [hn1, hn2]
  obtain ⟨k, hk⟩ : ∃ k, c.k = k := ⟨_, rfl⟩
  rw [hk] at HG ⊢
  go_enter Try.func41, Try.ntmps41
  go_upto_region 1 with fail
  obtain ⟨A, hAe, hB, hw⟩ := blk1 w (cgC k (.slice q1 n1 c1) (.slice q2 n2 c2)) 26
  rw [hAe]
  obtain ⟨d0, d1, d2⟩ := cellsG hB
  have hbv := Below.refl A.heap.size A
  clear hAe hB
  go_wp2_with fail
  refine (ggood_any k q1 n1 c1 q2 n2 c2 _).mono ?_
  rintro e W1 ⟨rfl, b1⟩
  rw [HG]
  have hbv := ab_trans hbv b1
  have hwv := ab_trans hw hbv
  cases h1 : gdG c
  · have HN : Hid (doN c l = 2 ∧ doL c l = l) := do_form h1
    go_wp2_with fail
    go_ret2
    exact ⟨doi_of hv HN.out.2 HN.out.1 rfl, hwv⟩
  · rcases gd_kind h1 with e1 | e1
    · have HN : Hid (doN c l = 0 ∧ doL c l = l) := do_read h1 e1
      rw [hk] at e1
      subst e1
      go_wp2_with fail
      go_ret2
      exact ⟨doi_of hv HN.out.2 HN.out.1 rfl, hwv⟩
    · have e2 := e1
      rw [hk] at e2
      subst e2
      go_wp2_with fail
      refine (gsameR_any _ v c.o l _ (ho.keep (ab_trans h0 hwv)) (hv.keep (ab_trans h0 hwv))).mono ?_
      rintro e W2 ⟨rfl, b2⟩
      have hbv := ab_trans hbv b2
      have hwv := ab_trans hw hbv
      by_cases h2 : l = c.o
      · have HN : Hid (doN c l = 0 ∧ doL c l = c.n) := do_swap h1 e1 h2
        rw [decide_eq_true h2.symm]
        clear h2
        go_wp2_with fail
        go_ret2
        exact ⟨doi_of hn HN.out.2 HN.out.1 rfl, hwv⟩
      · have HN : Hid (doN c l = 11 ∧ doL c l = l) := do_stale h1 e1 h2
        rw [decide_eq_false (fun h => h2 h.symm)]
        clear h2
        go_wp2_with fail
        go_ret2
        exact ⟨doi_of hv HN.out.2 HN.out.1 rfl, hwv⟩
/-- Bools in a block. -/
def bls (l : List Bool) : Array Value := (l.map Value.bool).toArray
theorem bls_at {l : List Bool} {k : Nat} {x : Bool} (h : l[k]? = some x) : (bls l)[k]? = some (.bool x) := by simp [bls, h]
theorem bls_set (l : List Bool) (k : Nat) (x : Bool) : (bls l).setIfInBounds k (.bool x) = bls (l.set k x) := by
  unfold bls
  apply Array.ext'
  simp [List.map_set]
def hasL (pr : List (Option (Bt × List Int))) : List Bool := pr.map Option.isSome
theorem cnt_has (pr : List (Option (Bt × List Int))) : cntB (hasL pr) = cntO pr := by
  unfold cntB cntO hasL
  rw [List.countP_map]
  rfl
/-- What the document's round holds of the registers. -/
structure RgsOK (W0 : World) (os : List RrD) (pr : List (Option (Bt × List Int))) : Prop where
  len : os.length = pr.length
  at' : ∀ (k : Nat) (a : Bt) (l : List Int), pr[k]? = some (some (a, l)) → ∃ r, os[k]? = some r ∧ keyR r = (a, l) ∧ Is W0 r.v r.l
/-- Every register's value is a slice. -/
def SlR (os : List RrD) : Prop := ∀ r ∈ os, ∃ q n c, r.v = .slice q n c
abbrev rfC (R : Rd) (vo vn vv : Value) (g1 g2 g3 : Nat) : Array Value := #[.int .i64 (R.n : Int), .int .i64 R.b.n, .int .i64 R.b.nd, .int .i64 R.b.lf, .int .i64 R.c.k, vo, vn, .int .i64 (R.st : Int), .slice (some ⟨g1, 0, none⟩) R.n R.n, .slice (some ⟨g2, 0, none⟩) R.n R.n, .slice (some ⟨g3, 0, none⟩) R.n R.n, vv, .int .i64 (R.e : Int), .int .i64 R.mt.n, .int .i64 R.mt.nd, .int .i64 R.mt.lf]
/-- The document's round at block d; W0: where what came in lies. -/
structure Drn (W0 W : World) (B d g1 g2 g3 : Nat) (R : Rd) : Prop where
  ged : B ≤ d
  ge1 : B ≤ g1
  ge2 : B ≤ g2
  ge3 : B ≤ g3
  ne : g1 ≠ g3
  mem : ∃ vo vn vv, Blk W d (rfC R vo vn vv g1 g2 g3) 92 ∧ Is W0 vo R.c.o ∧ Is W0 vn R.c.n ∧ Is W0 vv R.v
  has : Blk W g1 (bls (hasL R.pr)) 4
  reg : ∃ os, Blk W g2 (flR os).toArray 61 ∧ RgsOK W0 os R.pr ∧ SlR os
  did : Blk W g3 (bls R.ac) 4
  ok : RdOK R
  old : Below W0.heap.size W0 W
  le : W0.heap.size ≤ B
  s1 : 1 ≤ R.st
theorem Drn.frm {X : Nat → Prop} {W0 W W' : World} {B d g1 g2 g3 : Nat} {R : Rd} (h : Drn W0 W B d g1 g2 g3 R) (hf : Frm X W W') (hX : ∀ k, X k → W0.heap.size ≤ k) (h0 : ¬ X d) (h1 : ¬ X g1) (h2 : ¬ X g2) (h3 : ¬ X g3) : Drn W0 W' B d g1 g2 g3 R := by
  obtain ⟨vo, vn, vv, hB, i1, i2, i3⟩ := h.mem
  obtain ⟨os, ho, hr, hs⟩ := h.reg
  exact ⟨h.ged, h.ge1, h.ge2, h.ge3, h.ne, ⟨vo, vn, vv, hB.frm hf h0, i1, i2, i3⟩, h.has.frm hf h1, ⟨os, ho.frm hf h2, hr, hs⟩, h.did.frm hf h3, h.ok, h.old.trans (hf.below h.old.size hX), h.le, h.s1⟩
theorem Drn.keep {W0 W W' : World} {B d g1 g2 g3 : Nat} {R : Rd} (h : Drn W0 W B d g1 g2 g3 R) (hb : Below W.heap.size W W') : Drn W0 W' B d g1 g2 g3 R :=
  h.frm (X := fun _ => False) (frm_below hb) (fun k e => e.elim) (fun e => e) (fun e => e) (fun e => e) (fun e => e)
def bkr (d g1 g2 g3 : Nat) (k : Nat) : Prop := k = d ∨ k = g1 ∨ k = g2 ∨ k = g3
theorem Drn.noI {W0 W : World} {B d g1 g2 g3 : Nat} {R : Rd} (h : Drn W0 W B d g1 g2 g3 R) : NoI (bkr d g1 g2 g3) W := by
  obtain ⟨vo, vn, vv, hB, -⟩ := h.mem
  obtain ⟨os, ho, -⟩ := h.reg
  rintro k (e | e | e | e) hk <;> subst e
  · have := hk.uniq hB.kindR; cases this
  · have := hk.uniq h.has.kindR; cases this
  · have := hk.uniq ho.kindR; cases this
  · have := hk.uniq h.did.kindR; cases this
abbrev dptr (d : Nat) : Value := .pointer (some ⟨d, 0, none⟩)
set_option maxHeartbeats 1000000 in
theorem count_any (g n : Nat) (l : List Bool) (w : World) (hB : Blk w g (bls l) 4) (hl : l.length = n) (h5 : n ≤ 1000) :
    Calls Try.prog 40 #[.slice (some ⟨g, 0, none⟩) n n] w fun e w' => e = .returned (.int .i64 ((cntB l : Nat) : Int)) ∧ Below w.heap.size w w' := by
  go_enter Try.func40, Try.ntmps40
  go_wp2_with fail
  go_loopw [3, 4] (fun c i wr => ∃ j : Nat, j ≤ n ∧ i = .int .i64 (j : Int) ∧ c = .int .i64 ((cntB (l.take j) : Nat) : Int) ∧ Below w.heap.size w wr) (fun c i _ => n - (intOf i).toNat)
  case atStart => exact ⟨0, by omega, rfl, rfl, Below.refl _ _⟩
  case round =>
    obtain ⟨j, hj, rfl, rfl, hb⟩ := hrel
    have hBw := hB.keep hb
    have hcl := cntB_le (l.take j)
    rw [List.length_take] at hcl
    by_cases cj : j = n
    · subst cj
      have HL : Hid (cntB (l.take j) = cntB l) := by show _ = _; rw [← hl, List.take_length]
      generalize cntB (l.take j) = N at *
      go_wp2_with fail
      go_ret
      exact ⟨by rw [← HL.out]; rfl, hb⟩
    · have hjn : j < n := by omega
      have hji : (j : Int) < (n : Int) := by omega
      cases hx : l[j]? with
      | none => rw [List.getElem?_eq_none_iff] at hx; omega
      | some x =>
        have c0 : wr.cell? ⟨g, j, none⟩ = some (.bool x) := hBw.at (bls_at hx)
        have HN : Hid (cntB (l.take (j + 1)) = cntB (l.take j) + (if x then 1 else 0)) := by
          show _ = _
          unfold cntB
          rw [List.take_add_one, List.countP_append, hx]
          cases x <;> simp
        generalize cntB (l.take j) = N at *
        have hN : N ≤ 1000 := by omega
        clear hBw hx
        cases x
        · go_wp2_with fail
          exact ⟨⟨j + 1, by omega, rfl, by rw [HN.out]; rfl, hb⟩, by simp only [intOf]; omega⟩
        · go_wp2_with fail
          exact ⟨⟨j + 1, by omega, rfl, by rw [HN.out]; rfl, hb⟩, by simp only [intOf]; omega⟩
end Go.Proofs.Ytodmhohccclhmaa
