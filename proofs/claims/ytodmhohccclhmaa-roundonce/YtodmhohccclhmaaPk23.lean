/-
  A round and the document's one side by side: same.
  What else the laws on rounds share.
  What comes in to the laws on rounds: answers, rounds that are played, acts.
-/
import Derived.Test.YtodmhohccclhmaaPk22
import Derived.Deep.CutRange
import Derived.Deep.CutBlock
import Derived.Test.YtodmhohccclhmaaPk15
import Derived.Test.YtodmhohccclhmaaPk12
namespace Go.Proofs.Ytodmhohccclhmaa
open Go.RowKit
set_option linter.unusedVariables false
set_option maxRecDepth 100000
variable {G : Nat → Prop}

set_option maxHeartbeats 4000000 in
theorem rsame11_any (W0 : World) (B b mp ma : Nat) (B2 d g1 g2 g3 : Nat) (R : Rd) (w : World) (h : Rn G w B b mp ma R) (hD : Drn W0 w B2 d g1 g2 g3 R) :
    Calls Try.prog 29 #[rptr b, dptr d] w fun e w' => e = .returned (.bool true) ∧ Below w.heap.size w w' := by
  have hok := h.ok
  have hvz := hok.vz
  obtain ⟨vv, d10, d11, iv⟩ := rn_val h
  obtain ⟨xo, xn, xv, hBd, -, -, I3⟩ := hD.mem
  have c1 : ∀ V, Below w.heap.size w V → V.cell? ⟨d, 1, none⟩ = some (.int .i64 R.b.n) := hBd.cellV (i := 1) rfl
  have c2 : ∀ V, Below w.heap.size w V → V.cell? ⟨d, 2, none⟩ = some (.int .i64 R.b.nd) := hBd.cellV (i := 2) rfl
  have c3 : ∀ V, Below w.heap.size w V → V.cell? ⟨d, 3, none⟩ = some (.int .i64 R.b.lf) := hBd.cellV (i := 3) rfl
  have c7 : ∀ V, Below w.heap.size w V → V.cell? ⟨d, 7, none⟩ = some (.int .i64 (R.st : Int)) := hBd.cellV (i := 7) rfl
  have c11 : ∀ V, Below w.heap.size w V → V.cell? ⟨d, 11, none⟩ = some xv := hBd.cellV (i := 11) rfl
  have c12 : ∀ V, Below w.heap.size w V → V.cell? ⟨d, 12, none⟩ = some (.int .i64 (R.e : Int)) := hBd.cellV (i := 12) rfl
  have c13 : ∀ V, Below w.heap.size w V → V.cell? ⟨d, 13, none⟩ = some (.int .i64 R.mt.n) := hBd.cellV (i := 13) rfl
  have c14 : ∀ V, Below w.heap.size w V → V.cell? ⟨d, 14, none⟩ = some (.int .i64 R.mt.nd) := hBd.cellV (i := 14) rfl
  have c15 : ∀ V, Below w.heap.size w V → V.cell? ⟨d, 15, none⟩ = some (.int .i64 R.mt.lf) := hBd.cellV (i := 15) rfl
  have hold := hD.old
  have hb0 := Below.refl w.heap.size w
  have xs : Is w xv R.v := I3.keep hold
  go_enter Try.func29, Try.ntmps29
  go_upto_region 1 with fail
  go_cut [5, 6] from 9 to 13 (fun v e wc => Below w.heap.size w wc ∧ ((R.st ≠ 3 ∧ v = .slice none 0 0 ∧ e = .nilIface) ∨ (R.st = 3 ∧ ∃ q n c, v = .slice q n c ∧ Is wc (.slice q n c) R.v ∧ e = errV R.e)))
  case first =>
    by_cases hs : R.st = 3
    · go_wp2_with fail
      refine (rresult_yes b vv (errV R.e) R.v w (rn_stage h hs) d10 d11 iv.is (by omega)).mono ?_
      rintro e W1 ⟨q, n, c, rfl, hO, hn, b1⟩
      go_wp2_with fail
      go_meet
      case rel => exact ⟨b1, .inr ⟨hs, q, n, c, rfl, hO.is, rfl⟩⟩
    · go_wp2_with fail
      refine (rresult_no b R.st w (rn_stage h rfl) hs).mono ?_
      rintro e W1 ⟨rfl, hW⟩
      subst W1
      go_wp2_with fail
      go_meet
      case rel => exact ⟨hb0, .inl ⟨hs, rfl, rfl⟩⟩
  case rest =>
    obtain ⟨bw, hcase⟩ := hcut
    obtain ⟨Wa, hWa⟩ : ∃ W, W = wc := ⟨_, rfl⟩
    subst hWa
    have xsw := xs.keep bw
    have hRw := h.keep bw
    have k7 : ∀ y : Cls Wa, y.val.cell? ⟨d, 7, none⟩ = some (.int .i64 (R.st : Int)) := fun y => c7 _ (ab_trans bw y.prop)
    have k11 : ∀ y : Cls Wa, y.val.cell? ⟨d, 11, none⟩ = some xv := fun y => c11 _ (ab_trans bw y.prop)
    have k12 : ∀ y : Cls Wa, y.val.cell? ⟨d, 12, none⟩ = some (.int .i64 (R.e : Int)) := fun y => c12 _ (ab_trans bw y.prop)
    have HZ := cls_some Wa
    have E1 := neq00
    go_upto_region 2 with fail
    go_cut [52] from 14 to 51 (fun s wd => s = .bool false ∧ Below Wa.heap.size Wa wd)
    case first =>
      rcases hcase with ⟨hs, rfl, rfl⟩ | ⟨hs, q, n, c, rfl, hI, rfl⟩
      · have z1 : ((R.st : Int) != 3) = true := by simp; omega
        have z2 : ((R.st : Int) == 3) = false := by simp; omega
        refine wp_region_below (by kernel_rfl) (by kernel_rfl) ?_
        repeat (go_big_quiet_step (fail))
        refine wpQuiet_nil ?_
        rintro _ ⟨y, rfl⟩
        obtain ⟨W2, hb⟩ := y
        dsimp only
        clear k7 k11 k12 HZ E1
        go_wp2_with fail
        go_meet
        case rel => exact ⟨rfl, hb⟩
      · have z1 : ((R.st : Int) != 3) = false := by rw [hs]; rfl
        have z2 : ((R.st : Int) == 3) = true := by rw [hs]; rfl
        have z3 : ((R.e : Int) != (R.e : Int)) = false := by simp
        have HC : Hid (∀ y : Cls Wa, Calls Try.prog 18 #[.slice q n c, xv] y.val fun e w' => e = .returned (.bool true) ∧ Below y.val.heap.size y.val w') := fun y => by
          have := gints_any _ xv R.v R.v y.val (hI.keep y.prop) (xsw.keep y.prop) (by omega) (by omega)
          rw [decide_eq_true (rfl : R.v = R.v)] at this
          exact this
        clear hs
        refine wp_region_below (by kernel_rfl) (by kernel_rfl) ?_
        repeat (go_big_quiet_step (first
          | (go_at_call 18; exact calls_below (HC.out _))
          | (go_at_call 25; exact calls_same (gnum_any R.e _))))
        refine wpQuiet_nil ?_
        rintro _ ⟨y, rfl⟩
        obtain ⟨W2, hb⟩ := y
        dsimp only
        clear k7 k11 k12 HZ E1
        go_wp2_with fail
        go_meet
        case rel => exact ⟨rfl, hb⟩
    case rest =>
      obtain ⟨rfl, bd⟩ := hcut
      clear hcase k7 k11 k12 HZ E1
      have hbd := ab_trans bw bd
      have hRd := hRw.keep bd
      obtain ⟨uv, u10, -, iu⟩ := rn_val hRd
      go_wp2_with fail
      refine (rvalue_any b uv R.v _ u10 iu.is (by omega)).mono ?_
      rintro e W3 ⟨v3, rfl, hO3, b3⟩
      obtain ⟨q3, cp3, e3⟩ := hO3.is.form
      obtain ⟨n3, hn3⟩ : ∃ n, R.v.length = n := ⟨_, rfl⟩
      rw [hn3] at e3
      subst e3
      have hb3 := ab_trans hbd b3
      have hR3 := hRd.keep b3
      go_wp2_with fail
      refine (gints_any _ xv R.v R.v _ hO3.is (xs.keep hb3) (by omega) (by omega)).mono ?_
      rintro e W4 ⟨rfl, b4⟩
      rw [decide_eq_true (rfl : R.v = R.v)]
      have hb4 := ab_trans hb3 b4
      have hR4 := hR3.keep b4
      have O4 := hO3.keep b4
      unfold Io at O4
      rw [hn3] at O4
      have zw : w.heap.size ≤ wc.heap.size := hbd.size
      go_wp2_with fail
      go_loopw [64] (fun i wr => ∃ (j : Nat) (ys : List Int), j ≤ n3 ∧ i = .int .i64 (j : Int) ∧ wr.ownsRow wc.heap.size 3 1 (.slice q3 n3 cp3) n3 (ints ys) ∧ Onl (.slice q3 n3 cp3) W4 wr) (fun i _ => n3 - (intOf i).toNat)
      case atStart => exact ⟨0, R.v, by omega, rfl, O4, Onl.refl _ _⟩
      case round =>
        obtain ⟨j, ys, hj, rfl, ho, hk1⟩ := hrel
        by_cases cj : j = n3
        · subst cj
          have b5 : Below wc.heap.size W4 wr := hk1.below (fun g hg => by have := (World.ownsRow.lt O4 g hg).1; omega)
          have bw5 : Below w.heap.size w wr := hb4.trans (b5.mono zw)
          have hR5 : Rn G wr B b mp ma R := hRd.keep ((ab_trans b3 b4).trans b5)
          obtain ⟨-, r1, r2, r3, r7, -, -⟩ := hear_cells hR5
          obtain ⟨vo5, vn5, vv5, hB5, -⟩ := hR5.mem
          have r12 : ∀ V, Below wr.heap.size wr V → V.cell? ⟨b, 12, none⟩ = some (.int .i64 R.mt.n) := hB5.cellV (i := 12) rfl
          have r13 : ∀ V, Below wr.heap.size wr V → V.cell? ⟨b, 13, none⟩ = some (.int .i64 R.mt.nd) := hB5.cellV (i := 13) rfl
          have r14 : ∀ V, Below wr.heap.size wr V → V.cell? ⟨b, 14, none⟩ = some (.int .i64 R.mt.lf) := hB5.cellV (i := 14) rfl
          have k1 : ∀ y : Cls wr, y.val.cell? ⟨d, 1, none⟩ = some (.int .i64 R.b.n) := fun y => c1 _ (ab_trans bw5 y.prop)
          have k2 : ∀ y : Cls wr, y.val.cell? ⟨d, 2, none⟩ = some (.int .i64 R.b.nd) := fun y => c2 _ (ab_trans bw5 y.prop)
          have k3 : ∀ y : Cls wr, y.val.cell? ⟨d, 3, none⟩ = some (.int .i64 R.b.lf) := fun y => c3 _ (ab_trans bw5 y.prop)
          have k7 : ∀ y : Cls wr, y.val.cell? ⟨d, 7, none⟩ = some (.int .i64 (R.st : Int)) := fun y => c7 _ (ab_trans bw5 y.prop)
          have k13 : ∀ y : Cls wr, y.val.cell? ⟨d, 13, none⟩ = some (.int .i64 R.mt.n) := fun y => c13 _ (ab_trans bw5 y.prop)
          have k14 : ∀ y : Cls wr, y.val.cell? ⟨d, 14, none⟩ = some (.int .i64 R.mt.nd) := fun y => c14 _ (ab_trans bw5 y.prop)
          have k15 : ∀ y : Cls wr, y.val.cell? ⟨d, 15, none⟩ = some (.int .i64 R.mt.lf) := fun y => c15 _ (ab_trans bw5 y.prop)
          have HZ := cls_some wr
          have z3 : ((R.st : Int) == (R.st : Int)) = true := by simp
          have HE1 : ∀ w, _ := eqBt R.b R.b
          rw [eqB_iff.2 (rfl : R.b = R.b)] at HE1
          have HE2 : ∀ w, _ := eqBt R.mt R.mt
          rw [eqB_iff.2 (rfl : R.mt = R.mt)] at HE2
          have H1 : Hid (∀ y : Cls wr, Calls Try.prog 12 #[rptr b] y.val fun e w' => e = .returned (.int .i64 (R.st : Int)) ∧ w' = y.val) := fun y => rstage_any b _ _ (r7 _ y.prop)
          have H2 : Hid (∀ y : Cls wr, Calls Try.prog 15 #[rptr b] y.val fun e w' => e = .returned (bV R.b) ∧ Below y.val.heap.size y.val w') := fun y => rballot_any b R.b _ (r1 _ y.prop) (r2 _ y.prop) (r3 _ y.prop)
          have H3 : Hid (∀ y : Cls wr, Calls Try.prog 22 #[rptr b] y.val fun e w' => e = .returned (bV R.mt) ∧ Below y.val.heap.size y.val w') := fun y => rmet_any b R.mt _ (r12 _ y.prop) (r13 _ y.prop) (r14 _ y.prop)
          clear hB5 ho hk1 O4
          go_upto_region 12 with fail
          refine wp_region_below (by kernel_rfl) (by kernel_rfl) ?_
          repeat (go_big_quiet_step (first
            | (go_at_call 12; exact calls_same (H1.out _))
            | (go_at_call 15; exact calls_below (H2.out _))
            | (go_at_call 22; exact calls_below (H3.out _))))
          refine wpQuiet_nil ?_
          rintro _ ⟨y, rfl⟩
          obtain ⟨W6, b6⟩ := y
          dsimp only
          clear k1 k2 k3 k7 k13 k14 k15 HZ HE1 HE2
          go_wp2_with fail
          go_ret
          exact ⟨rfl, ab_trans bw5 b6⟩
        · have hjn : j < n3 := by omega
          have hji : (j : Int) < (n3 : Int) := by omega
          obtain ⟨gg, cap, ee, hbb, hgg, hcc, hmm, -⟩ := own_cells ho (fun e => by cases e; omega)
          cases ee
          have hys := owns_len ho
          have dd := ho.cellAt j (by omega)
          have fz := ho.frozenAt j
          obtain ⟨z, hzz⟩ : ∃ z, ys[j]? = some z := ⟨ys[j], List.getElem?_eq_getElem (by omega)⟩
          have hu9 : (ints ys)[j]? = some (.int .i64 z) := by rw [ints_at, hzz]; rfl
          rw [hu9] at dd
          go_wp2_with fail
          have hst := (ho.stored j (.int .i64 (-1))).1
          rw [show (ints ys).set j (.int .i64 (-1)) = ints (ys.set j (-1)) from by simp [ints, List.map_set]] at hst
          exact ⟨⟨j + 1, _, by omega, rfl, hst, hk1.set rfl _ _⟩, by simp only [intOf]; omega⟩
end Go.Proofs.Ytodmhohccclhmaa
namespace Go.Proofs.Ytodmhohccclhmaa
open Go.RowKit
set_option linter.unusedVariables false
set_option maxRecDepth 100000

theorem Ig.up {G G' : Nat → Prop} {W : World} {B : Nat} {v : Value} {l : List Int} (h : Ig G W B v l) (hG : ∀ k, G' k → G k ∨ W.heap.size ≤ k) : Ig G' W B v l :=
  ⟨h.1, fun k hk hg => by rcases hG k hg with e | e; exact h.2 k hk e; have := (h.1.lt k hk).2; omega⟩
theorem Mp.up {G G' : Nat → Prop} {W : World} {B m : Nat} {pr : List (Option (Bt × List Int))} (h : Mp G W B m pr) (hG : ∀ k, G' k → G k ∨ W.heap.size ≤ k) : Mp G' W B m pr := by
  obtain ⟨D, h1, h2, h3⟩ := h
  refine ⟨D, h1, h2, fun k x hk => ?_⟩
  have := h3 k x hk
  cases x with
  | none => exact this
  | some x =>
    obtain ⟨a, l⟩ := x
    obtain ⟨h4, q, c, h5, h6⟩ := this
    exact ⟨h4, q, c, h5, h6.up hG⟩
theorem Rn.up {G G' : Nat → Prop} {W : World} {B b mp ma : Nat} {R : Rd} (h : Rn G W B b mp ma R) (hG : ∀ k, G' k → G k ∨ W.heap.size ≤ k) : Rn G' W B b mp ma R := by
  obtain ⟨vo, vn, vv, hB, i1, i2, i3⟩ := h.mem
  exact ⟨h.geb, h.gep, h.gea, h.ne, ⟨vo, vn, vv, hB, i1.up hG, i2.up hG, i3.up hG⟩, h.pm.up hG, h.am, h.ok⟩
theorem frm_onl {v : Value} {V W : World} (h : Onl v V W) : Frm (fun k => v.ownBlock = some k) V W := by
  cases hv : v.ownBlock with
  | none => rw [h.2 hv]; exact Frm.refl _ _
  | some g => exact frm_chg (h.1 g hv) rfl
theorem Drn.lts {W0 W : World} {B d g1 g2 g3 : Nat} {R : Rd} (h : Drn W0 W B d g1 g2 g3 R) : d < W.heap.size ∧ g1 < W.heap.size ∧ g2 < W.heap.size ∧ g3 < W.heap.size := by
  obtain ⟨vo, vn, vv, hB, -⟩ := h.mem
  obtain ⟨os, ho, -⟩ := h.reg
  exact ⟨hB.lt, h.has.lt, ho.lt, h.did.lt⟩
/-- The blocks of both rounds. -/
def bkx (b mp ma d g1 g2 g3 : Nat) (k : Nat) : Prop := bks b mp ma k ∨ bkr d g1 g2 g3 k
end Go.Proofs.Ytodmhohccclhmaa
namespace Go.Proofs.Ytodmhohccclhmaa
open Go.ChangeShapes Go.WideShapes Go.ChangeAt Go.RowKit
set_option linter.unusedVariables false
set_option maxRecDepth 100000

/-- An answer. -/
structure OpD where
  kd : Int
  kp : Int
  ow : Bool
  b : Bt
  g : Bt
  p : Bt
  a : Bt
  v : Value
  l : List Int
structure OpAt (W : World) (g o : Nat) (x : OpD) : Prop where
  c0 : W.cell? ⟨g, o, none⟩ = some (.int .i64 x.kd)
  c1 : W.cell? ⟨g, o + 1, none⟩ = some (.int .i64 x.kp)
  c2 : W.cell? ⟨g, o + 2, none⟩ = some (.bool x.ow)
  c3 : W.cell? ⟨g, o + 3, none⟩ = some (.int .i64 x.b.n)
  c4 : W.cell? ⟨g, o + 4, none⟩ = some (.int .i64 x.b.nd)
  c5 : W.cell? ⟨g, o + 5, none⟩ = some (.int .i64 x.b.lf)
  c6 : W.cell? ⟨g, o + 6, none⟩ = some (.int .i64 x.g.n)
  c7 : W.cell? ⟨g, o + 7, none⟩ = some (.int .i64 x.g.nd)
  c8 : W.cell? ⟨g, o + 8, none⟩ = some (.int .i64 x.g.lf)
  c9 : W.cell? ⟨g, o + 9, none⟩ = some (.int .i64 x.p.n)
  c10 : W.cell? ⟨g, o + 10, none⟩ = some (.int .i64 x.p.nd)
  c11 : W.cell? ⟨g, o + 11, none⟩ = some (.int .i64 x.p.lf)
  c12 : W.cell? ⟨g, o + 12, none⟩ = some (.int .i64 x.a.n)
  c13 : W.cell? ⟨g, o + 13, none⟩ = some (.int .i64 x.a.nd)
  c14 : W.cell? ⟨g, o + 14, none⟩ = some (.int .i64 x.a.lf)
  c15 : W.cell? ⟨g, o + 15, none⟩ = some x.v
  sv : Is W x.v x.l
theorem OpAt.keep {W W' : World} {g o : Nat} {x : OpD} (h : OpAt W g o x) (hg : g < W.heap.size) (hb : Below W.heap.size W W') : OpAt W' g o x :=
  ⟨keep_cell hb h.c0 hg, keep_cell hb h.c1 hg, keep_cell hb h.c2 hg, keep_cell hb h.c3 hg, keep_cell hb h.c4 hg, keep_cell hb h.c5 hg, keep_cell hb h.c6 hg, keep_cell hb h.c7 hg, keep_cell hb h.c8 hg, keep_cell hb h.c9 hg, keep_cell hb h.c10 hg, keep_cell hb h.c11 hg, keep_cell hb h.c12 hg, keep_cell hb h.c13 hg, keep_cell hb h.c14 hg, keep_cell hb h.c15 hg, h.sv.keep hb⟩
structure OpRow (W : World) (q : Option Addr) (n cap g off : Nat) (os : List OpD) : Prop where
  len : os.length = n
  fits : n ≤ cap
  max : cap ≤ 9223372036854775807
  ptr : 0 < n → q = some ⟨g, off, none⟩
  lt : 0 < n → g < W.heap.size
  row : ∀ j x, os[j]? = some x → OpAt W g (off + j * 16) x
theorem OpRow.keep {W W' : World} {q : Option Addr} {n cap g off : Nat} {os : List OpD} (h : OpRow W q n cap g off os) (hb : Below W.heap.size W W') : OpRow W' q n cap g off os :=
  ⟨h.len, h.fits, h.max, h.ptr, fun h0 => Nat.lt_of_lt_of_le (h.lt h0) hb.size, fun j x hx => (h.row j x hx).keep (h.lt (by have := (List.getElem?_eq_some_iff.1 hx).1; have := h.len; omega)) hb⟩
/-- An act. -/
structure AcD where
  kd : Int
  wh : Int
  nm : Int
  k : Int
  vo : Value
  o : List Int
  vn : Value
  n : List Int
structure AcAt (W : World) (g o : Nat) (x : AcD) : Prop where
  c0 : W.cell? ⟨g, o, none⟩ = some (.int .i64 x.kd)
  c1 : W.cell? ⟨g, o + 1, none⟩ = some (.int .i64 x.wh)
  c2 : W.cell? ⟨g, o + 2, none⟩ = some (.int .i64 x.nm)
  c3 : W.cell? ⟨g, o + 3, none⟩ = some (.int .i64 x.k)
  c4 : W.cell? ⟨g, o + 4, none⟩ = some x.vo
  c5 : W.cell? ⟨g, o + 5, none⟩ = some x.vn
  svo : Is W x.vo x.o
  svn : Is W x.vn x.n
theorem AcAt.keep {W W' : World} {g o : Nat} {x : AcD} (h : AcAt W g o x) (hg : g < W.heap.size) (hb : Below W.heap.size W W') : AcAt W' g o x :=
  ⟨keep_cell hb h.c0 hg, keep_cell hb h.c1 hg, keep_cell hb h.c2 hg, keep_cell hb h.c3 hg, keep_cell hb h.c4 hg, keep_cell hb h.c5 hg, h.svo.keep hb, h.svn.keep hb⟩
structure AcRow (W : World) (q : Option Addr) (n cap g off : Nat) (os : List AcD) : Prop where
  len : os.length = n
  fits : n ≤ cap
  max : cap ≤ 9223372036854775807
  ptr : 0 < n → q = some ⟨g, off, none⟩
  lt : 0 < n → g < W.heap.size
  row : ∀ j x, os[j]? = some x → AcAt W g (off + j * 6) x
theorem AcRow.keep {W W' : World} {q : Option Addr} {n cap g off : Nat} {os : List AcD} (h : AcRow W q n cap g off os) (hb : Below W.heap.size W W') : AcRow W' q n cap g off os :=
  ⟨h.len, h.fits, h.max, h.ptr, fun h0 => Nat.lt_of_lt_of_le (h.lt h0) hb.size, fun j x hx => (h.row j x hx).keep (h.lt (by have := (List.getElem?_eq_some_iff.1 hx).1; have := h.len; omega)) hb⟩
section
variable {H : Type} {enc : TypeId × Value → H} {w : World} {base : Nat} {spare : Nat → Bool} {held : Bool}
theorem nums11 {fuel : Nat} {cs : List Value} {x : DataW H × List MemPlace} (hf : DataW.trod enc Try.prog w base spare held fuel 24 cs = some x) :
    ∃ q n cap l, cs = [.slice q n cap] ∧ Is w (.slice q n cap) l := by
  obtain ⟨q, g, off, len, cap, l, e, hl, hk, hm, hp, hg, hc⟩ := rows_of (n := 1) (D := 8) (fun _ => .i64) Try.underlying24 (by kernel_rfl) (by omega) (kinds_of (by kernel_rfl)) hf
  exact ⟨q, len, cap, _, e, (is_rows hl hk hm hp hg hc).1⟩
theorem ballot11 {fuel : Nat} {e0 e1 e2 : Value} {x : DataW H × List MemPlace} (hf : DataW.trod enc Try.prog w base spare held fuel 23 [e0, e1, e2] = some x) :
    ∃ b : Bt, e0 = .int .i64 b.n ∧ e1 = .int .i64 b.nd ∧ e2 = .int .i64 b.lf := by
  obtain ⟨k0, f0, -⟩ := flat_cell 8 _ 23 _ _ 0 .i64 hf (by kernel_rfl)
  obtain ⟨k1, f1, -⟩ := flat_cell 8 _ 23 _ _ 1 .i64 hf (by kernel_rfl)
  obtain ⟨k2, f2, -⟩ := flat_cell 8 _ 23 _ _ 2 .i64 hf (by kernel_rfl)
  exact ⟨⟨k0, k1, k2⟩, by simpa using f0, by simpa using f1, by simpa using f2⟩
theorem register11 {fuel : Nat} {e0 e1 e2 e3 e4 e5 e6 : Value} {x : DataW H × List MemPlace} (hf : DataW.trod enc Try.prog w base spare held fuel 61 [e0, e1, e2, e3, e4, e5, e6] = some x) :
    ∃ (p a : Bt) (l : List Int), e0 = .int .i64 p.n ∧ e1 = .int .i64 p.nd ∧ e2 = .int .i64 p.lf ∧ e3 = .int .i64 a.n ∧ e4 = .int .i64 a.nd ∧ e5 = .int .i64 a.lf ∧ Is w e6 l := by
  obtain ⟨xs, m', _, hxe, _, hxl, hxx⟩ := DataW.trod_struct Try.underlying61 hf
  have hf0 := hxx 0 _ rfl
  have hf1 := hxx 1 _ rfl
  have hf2 := hxx 2 _ rfl
  have hsz : xs.length = 3 := hxl
  rw [List.getElem?_eq_getElem (by omega)] at hf0 hf1 hf2
  obtain ⟨p, h0, h1, h2⟩ := ballot11 (e0 := e0) (e1 := e1) (e2 := e2) hf0
  obtain ⟨a, h3, h4, h5⟩ := ballot11 (e0 := e3) (e1 := e4) (e2 := e5) hf1
  obtain ⟨q, n, c, l, ee, hs⟩ := nums11 hf2
  have h9 : [e6] = [Value.slice q n c] := ee
  obtain rfl : e6 = .slice q n c := by simpa using h9
  exact ⟨p, a, l, h0, h1, h2, h3, h4, h5, hs⟩
set_option maxHeartbeats 1000000 in
theorem ops11 {fuel : Nat} {cs : List Value} {y : DataW H × List MemPlace} (hf : DataW.trod enc Try.prog w base spare held fuel 27 cs = some y) :
    ∃ (q : Option Addr) (n cap g off : Nat) (os : List OpD), cs = [.slice q n cap] ∧ OpRow w q n cap g off os := by
  rcases Deep.open_slice Try.underlying27 hf with ⟨hcs, _⟩ | ⟨a', len, cap, m, n', D', Pl, hcs, hb, hl, hm, hmm, hx, hel⟩
  · exact ⟨none, 0, 0, 0, 0, [], hcs, rfl, by omega, by omega, fun h => absurd h (by omega), fun h => absurd h (by omega), fun j c hc => by simp at hc⟩
  · have hle : len ≤ m := by rw [hmm]; split <;> omega
    have key : ∀ j, j < len → ∃ x : OpD, w.cell? ((a'.add (j * 16)).add 0) = some (.int .i64 x.kd) ∧ w.cell? ((a'.add (j * 16)).add 1) = some (.int .i64 x.kp) ∧ w.cell? ((a'.add (j * 16)).add 2) = some (.bool x.ow) ∧ w.cell? ((a'.add (j * 16)).add 3) = some (.int .i64 x.b.n) ∧ w.cell? ((a'.add (j * 16)).add 4) = some (.int .i64 x.b.nd) ∧ w.cell? ((a'.add (j * 16)).add 5) = some (.int .i64 x.b.lf) ∧ w.cell? ((a'.add (j * 16)).add 6) = some (.int .i64 x.g.n) ∧ w.cell? ((a'.add (j * 16)).add 7) = some (.int .i64 x.g.nd) ∧ w.cell? ((a'.add (j * 16)).add 8) = some (.int .i64 x.g.lf) ∧ w.cell? ((a'.add (j * 16)).add 9) = some (.int .i64 x.p.n) ∧ w.cell? ((a'.add (j * 16)).add 10) = some (.int .i64 x.p.nd) ∧ w.cell? ((a'.add (j * 16)).add 11) = some (.int .i64 x.p.lf) ∧ w.cell? ((a'.add (j * 16)).add 12) = some (.int .i64 x.a.n) ∧ w.cell? ((a'.add (j * 16)).add 13) = some (.int .i64 x.a.nd) ∧ w.cell? ((a'.add (j * 16)).add 14) = some (.int .i64 x.a.lf) ∧ w.cell? ((a'.add (j * 16)).add 15) = some x.v ∧ Is w x.v x.l := by
      intro j hj
      obtain ⟨cs', h1, h2⟩ := hel j (by omega)
      rw [show Try.prog.cellsOf 68 = 16 by kernel_rfl] at h1
      obtain ⟨_, h3, h4⟩ := World.cells?_some h1
      obtain ⟨xs, m', _, hxe, _, hxl, hxx⟩ := DataW.trod_struct Try.underlying68 h2
      have hf0 := hxx 0 _ rfl
      have hf1 := hxx 1 _ rfl
      have hf2 := hxx 2 _ rfl
      have hf3 := hxx 3 _ rfl
      have hf4 := hxx 4 _ rfl
      have hf5 := hxx 5 _ rfl
      have hsz : xs.length = 6 := hxl
      rw [List.getElem?_eq_getElem (by omega)] at hf0 hf1 hf2 hf3 hf4 hf5
      obtain ⟨e0, e1, e2, e3, e4, e5, e6, e7, e8, e9, e10, e11, e12, e13, e14, e15, rfl⟩ : ∃ e0 e1 e2 e3 e4 e5 e6 e7 e8 e9 e10 e11 e12 e13 e14 e15, cs' = [e0, e1, e2, e3, e4, e5, e6, e7, e8, e9, e10, e11, e12, e13, e14, e15] := by
        match cs', h3 with
        | [e0, e1, e2, e3, e4, e5, e6, e7, e8, e9, e10, e11, e12, e13, e14, e15], _ => exact ⟨e0, e1, e2, e3, e4, e5, e6, e7, e8, e9, e10, e11, e12, e13, e14, e15, rfl⟩
      obtain ⟨k0, rfl, -⟩ := i64_of (e := e0) hf0
      obtain ⟨k1, rfl, -⟩ := i64_of (e := e1) hf1
      obtain ⟨k2, rfl⟩ := bool_of (e := e2) hf2
      obtain ⟨b, rfl, rfl, rfl⟩ := ballot11 (e0 := e3) (e1 := e4) (e2 := e5) hf3
      obtain ⟨g, rfl, rfl, rfl⟩ := ballot11 (e0 := e6) (e1 := e7) (e2 := e8) hf4
      obtain ⟨p, a, l, rfl, rfl, rfl, rfl, rfl, rfl, hs⟩ := register11 (e0 := e9) (e1 := e10) (e2 := e11) (e3 := e12) (e4 := e13) (e5 := e14) (e6 := e15) hf5
      exact ⟨⟨k0, k1, k2, b, g, p, a, e15, l⟩, h4 0 (by omega), h4 1 (by omega), h4 2 (by omega), h4 3 (by omega), h4 4 (by omega), h4 5 (by omega), h4 6 (by omega), h4 7 (by omega), h4 8 (by omega), h4 9 (by omega), h4 10 (by omega), h4 11 (by omega), h4 12 (by omega), h4 13 (by omega), h4 14 (by omega), h4 15 (by omega), hs⟩
    haveI : Inhabited OpD := ⟨⟨0, 0, false, zB, zB, zB, zB, .nilIface, []⟩⟩
    obtain ⟨L, hL⟩ := Deep.choose_lt key
    have hspot : 0 < len → a'.spot = none := fun h0 => by
      have h1 := (hL 0 h0).1
      have := spot_of_cell h1
      rw [Nat.zero_mul] at this
      simpa [Addr.add] using this
    refine ⟨some a', len, cap, a'.block, a'.off, (List.range len).map L, hcs, ⟨by simp, hl, hm, fun h0 => ?_, fun h0 => ?_, fun j x hx => ?_⟩⟩
    · have hs := hspot h0
      obtain ⟨b, o, s⟩ := a'; cases hs; rfl
    · have := World.block_lt_of_cell? w _ (hL 0 h0).1
      simpa [Addr.add] using this
    · have hj : j < len := by have := (List.getElem?_eq_some_iff.1 hx).1; simpa using this
      have hxj : x = L j := by simp [hj] at hx; exact hx.symm
      subst hxj
      have hs := hspot (by omega)
      obtain ⟨h0_, h1_, h2_, h3_, h4_, h5_, h6_, h7_, h8_, h9_, h10_, h11_, h12_, h13_, h14_, h15_, s0_⟩ := hL j hj
      rw [add_plain _ hs, add_plain _ rfl] at h0_ h1_ h2_ h3_ h4_ h5_ h6_ h7_ h8_ h9_ h10_ h11_ h12_ h13_ h14_ h15_
      exact ⟨h0_, h1_, h2_, h3_, h4_, h5_, h6_, h7_, h8_, h9_, h10_, h11_, h12_, h13_, h14_, h15_, s0_⟩
set_option maxHeartbeats 1000000 in
theorem acts11 {fuel : Nat} {cs : List Value} {y : DataW H × List MemPlace} (hf : DataW.trod enc Try.prog w base spare held fuel 32 cs = some y) :
    ∃ (q : Option Addr) (n cap g off : Nat) (os : List AcD), cs = [.slice q n cap] ∧ AcRow w q n cap g off os := by
  rcases Deep.open_slice Try.underlying32 hf with ⟨hcs, _⟩ | ⟨a', len, cap, m, n', D', Pl, hcs, hb, hl, hm, hmm, hx, hel⟩
  · exact ⟨none, 0, 0, 0, 0, [], hcs, rfl, by omega, by omega, fun h => absurd h (by omega), fun h => absurd h (by omega), fun j c hc => by simp at hc⟩
  · have hle : len ≤ m := by rw [hmm]; split <;> omega
    have key : ∀ j, j < len → ∃ x : AcD, w.cell? ((a'.add (j * 6)).add 0) = some (.int .i64 x.kd) ∧ w.cell? ((a'.add (j * 6)).add 1) = some (.int .i64 x.wh) ∧ w.cell? ((a'.add (j * 6)).add 2) = some (.int .i64 x.nm) ∧ w.cell? ((a'.add (j * 6)).add 3) = some (.int .i64 x.k) ∧ w.cell? ((a'.add (j * 6)).add 4) = some x.vo ∧ w.cell? ((a'.add (j * 6)).add 5) = some x.vn ∧ Is w x.vo x.o ∧ Is w x.vn x.n := by
      intro j hj
      obtain ⟨cs', h1, h2⟩ := hel j (by omega)
      rw [show Try.prog.cellsOf 52 = 6 by kernel_rfl] at h1
      obtain ⟨_, h3, h4⟩ := World.cells?_some h1
      obtain ⟨xs, m', _, hxe, _, hxl, hxx⟩ := DataW.trod_struct Try.underlying52 h2
      have hf0 := hxx 0 _ rfl
      have hf1 := hxx 1 _ rfl
      have hf2 := hxx 2 _ rfl
      have hf3 := hxx 3 _ rfl
      have hsz : xs.length = 4 := hxl
      rw [List.getElem?_eq_getElem (by omega)] at hf0 hf1 hf2 hf3
      obtain ⟨e0, e1, e2, e3, e4, e5, rfl⟩ : ∃ e0 e1 e2 e3 e4 e5, cs' = [e0, e1, e2, e3, e4, e5] := by
        match cs', h3 with
        | [e0, e1, e2, e3, e4, e5], _ => exact ⟨e0, e1, e2, e3, e4, e5, rfl⟩
      obtain ⟨k0, rfl, -⟩ := i64_of (e := e0) hf0
      obtain ⟨k1, rfl, -⟩ := i64_of (e := e1) hf1
      obtain ⟨k2, rfl, -⟩ := i64_of (e := e2) hf2
      obtain ⟨ys, m2, _, hye, _, hyl, hyy⟩ := DataW.trod_struct Try.underlying26 hf3
      have hg0 := hyy 0 _ rfl
      have hg1 := hyy 1 _ rfl
      have hg2 := hyy 2 _ rfl
      have hsy : ys.length = 3 := hyl
      rw [List.getElem?_eq_getElem (by omega)] at hg0 hg1 hg2
      obtain ⟨k3, rfl, -⟩ := i64_of (e := e3) hg0
      obtain ⟨q1, n1, c1, l1, ee1, hs1⟩ := nums11 hg1
      obtain ⟨q2, n2, c2, l2, ee2, hs2⟩ := nums11 hg2
      have h9 : [e4] = [Value.slice q1 n1 c1] := ee1
      obtain rfl : e4 = .slice q1 n1 c1 := by simpa using h9
      have h8 : [e5] = [Value.slice q2 n2 c2] := ee2
      obtain rfl : e5 = .slice q2 n2 c2 := by simpa using h8
      exact ⟨⟨k0, k1, k2, k3, .slice q1 n1 c1, l1, .slice q2 n2 c2, l2⟩, h4 0 (by omega), h4 1 (by omega), h4 2 (by omega), h4 3 (by omega), h4 4 (by omega), h4 5 (by omega), hs1, hs2⟩
    haveI : Inhabited AcD := ⟨⟨0, 0, 0, 0, .nilIface, [], .nilIface, []⟩⟩
    obtain ⟨L, hL⟩ := Deep.choose_lt key
    have hspot : 0 < len → a'.spot = none := fun h0 => by
      have h1 := (hL 0 h0).1
      have := spot_of_cell h1
      rw [Nat.zero_mul] at this
      simpa [Addr.add] using this
    refine ⟨some a', len, cap, a'.block, a'.off, (List.range len).map L, hcs, ⟨by simp, hl, hm, fun h0 => ?_, fun h0 => ?_, fun j x hx => ?_⟩⟩
    · have hs := hspot h0
      obtain ⟨b, o, s⟩ := a'; cases hs; rfl
    · have := World.block_lt_of_cell? w _ (hL 0 h0).1
      simpa [Addr.add] using this
    · have hj : j < len := by have := (List.getElem?_eq_some_iff.1 hx).1; simpa using this
      have hxj : x = L j := by simp [hj] at hx; exact hx.symm
      subst hxj
      have hs := hspot (by omega)
      obtain ⟨h0_, h1_, h2_, h3_, h4_, h5_, s0_, s1_⟩ := hL j hj
      rw [add_plain _ hs, add_plain _ rfl] at h0_ h1_ h2_ h3_ h4_ h5_
      exact ⟨h0_, h1_, h2_, h3_, h4_, h5_, s0_, s1_⟩
theorem open_acts {r : Reach} {b0 : Nat} {v : Value} {d : DataW H} {p : List MemPlace} (hv : Value.okWide Try.prog w r b0 32 v) (h : DataW.Trod enc Try.prog w base spare held 32 v d p) (hz : ∀ n ∈ d.weights Try.prog 32, n ≤ reachBytes) :
    ∃ (q : Option Addr) (n cap g off : Nat) (os : List AcD), v = .slice q n cap ∧ AcRow w q n cap g off os := by
  obtain ⟨a, len, cap, rfl⟩ := okWide_slice Try.underlying32 hv
  obtain ⟨fuel, hf⟩ := h
  obtain ⟨q, n, c, g, off, os, e, hs⟩ := acts11 hf
  have e1 : (Value.slice a len cap) = .slice q n c := by simpa [Value.cells] using e
  exact ⟨q, n, c, g, off, os, e1, hs⟩
/-- A round that is played. -/
structure PlD where
  n : Int
  b : Bt
  k : Int
  vo : Value
  o : List Int
  vn : Value
  m : List Int
abbrev plC (x : PlD) (v : Value) : Array Value := #[.int .i64 x.n, .int .i64 x.b.n, .int .i64 x.b.nd, .int .i64 x.b.lf, .int .i64 x.k, x.vo, x.vn, v]
set_option maxHeartbeats 1000000 in
theorem open_played {r : Reach} {b0 : Nat} {v : Value} {d : DataW H} {p : List MemPlace} (hv : Value.okWide Try.prog w r b0 29 v) (h : DataW.Trod enc Try.prog w base spare held 29 v d p) (hz : ∀ n ∈ d.weights Try.prog 29, n ≤ reachBytes) :
    ∃ (x : PlD) (q : Option Addr) (n cap g off : Nat) (os : List OpD), v = .agg (plC x (.slice q n cap)) ∧ IsZ w x.vo x.o ∧ IsZ w x.vn x.m ∧ OpRow w q n cap g off os := by
  obtain ⟨cs, rfl, hs, m, xs, rfl, hx⟩ := dy_struct (n := 8) Try.underlying29 (by kernel_rfl) hv h
  obtain ⟨x0, g0, f0⟩ := hx 0 _ rfl
  obtain ⟨x1, g1, f1⟩ := hx 1 _ rfl
  obtain ⟨x2, g2, f2⟩ := hx 2 _ rfl
  obtain ⟨x3, g3, f3⟩ := hx 3 _ rfl
  obtain ⟨e0, e1, e2, e3, e4, e5, e6, e7, rfl⟩ : ∃ e0 e1 e2 e3 e4 e5 e6 e7, cs = #[e0, e1, e2, e3, e4, e5, e6, e7] := by
    refine ⟨cs[0], cs[1], cs[2], cs[3], cs[4], cs[5], cs[6], cs[7], ?_⟩
    apply Array.ext
    · simpa using hs
    · intro i h1 h2
      have : i = 0 ∨ i = 1 ∨ i = 2 ∨ i = 3 ∨ i = 4 ∨ i = 5 ∨ i = 6 ∨ i = 7 := by omega
      rcases this with rfl | rfl | rfl | rfl | rfl | rfl | rfl | rfl <;> rfl
  obtain ⟨k0, rfl, -⟩ := i64_of (e := e0) f0
  obtain ⟨b, rfl, rfl, rfl⟩ := ballot11 (e0 := e1) (e1 := e2) (e2 := e3) f1
  have hz2 : ∀ n ∈ x2.1.weights Try.prog 26, n ≤ reachBytes := fun n hn => hz n (by simp only [DataW.weights, Try.underlying29]; exact DataW.weights_mem_each (j := 2) rfl g2 n hn)
  obtain ⟨ys, m2, _, hye, _, hyl, hyy⟩ := DataW.trod_struct Try.underlying26 f2
  have hye1 : x2.1 = .agg (ys.map (·.1)) := congrArg Prod.fst hye
  rw [hye1] at hz2
  have hg0 := hyy 0 _ rfl
  have hg1 := hyy 1 _ rfl
  have hg2 := hyy 2 _ rfl
  have hsy : ys.length = 3 := hyl
  rw [List.getElem?_eq_getElem (by omega)] at hg0 hg1 hg2
  obtain ⟨k4, rfl, -⟩ := i64_of (e := e4) hg0
  obtain ⟨q1, n1, c1, l1, ee1, hs1⟩ := numsZ hg1 (fun n hn => hz2 n (by simp only [DataW.weights, Try.underlying26]; exact DataW.weights_mem_each (j := 1) rfl (by rw [List.getElem?_map, List.getElem?_eq_getElem (by omega)]; rfl) n hn))
  obtain ⟨q2, n2, c2, l2, ee2, hs2⟩ := numsZ hg2 (fun n hn => hz2 n (by simp only [DataW.weights, Try.underlying26]; exact DataW.weights_mem_each (j := 2) rfl (by rw [List.getElem?_map, List.getElem?_eq_getElem (by omega)]; rfl) n hn))
  have h9 : [e5] = [Value.slice q1 n1 c1] := ee1
  obtain rfl : e5 = .slice q1 n1 c1 := by simpa using h9
  have h8 : [e6] = [Value.slice q2 n2 c2] := ee2
  obtain rfl : e6 = .slice q2 n2 c2 := by simpa using h8
  obtain ⟨q, n, c, g, off, os, e, hr⟩ := ops11 f3
  have h7 : [e7] = [Value.slice q n c] := e
  obtain rfl : e7 = .slice q n c := by simpa using h7
  exact ⟨⟨k0, b, k4, .slice q1 n1 c1, l1, .slice q2 n2 c2, l2⟩, q, n, c, g, off, os, rfl, hs1, hs2, hr⟩
end
end Go.Proofs.Ytodmhohccclhmaa
