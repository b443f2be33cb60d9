/-
  What the chain's laws use besides a net: 'good', 'after', a net that is made, what is read of a net's rounds.
-/
import Derived.Test.YtodmhohccclhmaaPk24
import Derived.Test.YtodmhohccclhmaaPk20
import Derived.Test.YtodmhohccclhmaaPk23
import Derived.Test.YtodmhohccclhmaaPk14
import Derived.Test.YtodmhohccclhmaaPk25
namespace Go.Proofs.Ytodmhohccclhmaa
open Go.RowKit
set_option linter.unusedVariables false
set_option maxRecDepth 100000

abbrev nilS : Value := .slice none 0 0
/-- A net with n keepers, just made. -/
theorem nw_new (W : World) (n : Nat) : ∃ V, (W.alloc (.cells (flR (List.replicate n r0D)).toArray 61)).alloc (.cells (nwC n W.heap.size nilS nilS zB zB zB nilS) 43) = V ∧
    Nw W V W.heap.size (W.heap.size + 1) ⟨W.heap.size, nilS, nilS, nilS, [], List.replicate n r0D, [], []⟩ (net0 n) ∧ Below W.heap.size W V := by
  have hr0 : (List.replicate n r0D).map rgOf = List.replicate n zR := by
    rw [List.map_replicate]
    rfl
  have hrm : ∀ r ∈ List.replicate n r0D, r = r0D := fun r hr => List.eq_of_mem_replicate hr
  generalize List.replicate n r0D = os at *
  obtain ⟨V, hV, hR, hN, bV⟩ := blk2 W (flR os).toArray (nwC n W.heap.size nilS nilS zB zB zB nilS) 61 43
  refine ⟨V, hV, ?_, bV⟩
  refine { gew := by omega, ger := Nat.le_refl _, blk := ⟨zB, zB, zB, rfl, hN⟩, reg := hR, rgs := hr0, rgl := by simp [net0], rgi := fun r hr => ?_, rds := ⟨rfl, .inl ⟨rfl, rfl⟩⟩, bsl := rfl, rnd := fun i t R hi => (by cases hi), dis := fun i j t u _ hi => (by cases hi), chs := ⟨rfl, .inl ⟨rfl, rfl⟩⟩, chr := rfl, chi := fun c hc => (by cases hc), lts := ⟨rfl, .inl ⟨rfl, rfl⟩⟩, ltm := rfl, lti := fun l hl => (by cases hl), old := bV, le := Nat.le_refl _, lB := bV.size }
  rw [hrm r hr]
  exact Im.nil _ _ _
/-- 'after' -/
theorem aft_any (vw vo vn vx : Value) (lw lx : List Int) (c : Cg) (w : World) (hw : Is w vw lw) (ho : Is w vo c.o) (hn : Is w vn c.n) (hx : Is w vx lx) (s1 : lw.length ≤ 1000) (s2 : c.o.length ≤ 1000) (s3 : c.n.length ≤ 1000) (s4 : lx.length ≤ 1000) :
    Calls Try.prog 16 #[vw, .agg (cgC c.k vo vn), vx] w fun e w' => e = .returned (.bool (aft lw c lx)) ∧ Below w.heap.size w w' := by
  obtain ⟨k, xo, xn⟩ := c
  dsimp only at ho hn s2 s3 ⊢
  obtain ⟨q1, c1, e1⟩ := hw.form
  obtain ⟨q2, c2, e2⟩ := ho.form
  obtain ⟨q3, c3, e3⟩ := hn.form
  obtain ⟨q4, c4, e4⟩ := hx.form
  obtain ⟨n1, hn1⟩ : ∃ n, lw.length = n := ⟨_, rfl⟩
  obtain ⟨n2, hn2⟩ : ∃ n, xo.length = n := ⟨_, rfl⟩
  obtain ⟨n3, hn3⟩ : ∃ n, xn.length = n := ⟨_, rfl⟩
  obtain ⟨n4, hn4⟩ : ∃ n, lx.length = n := ⟨_, rfl⟩
  rw [hn1] at e1 s1
  rw [hn2] at e2 s2
  rw [hn3] at e3 s3
  rw [hn4] at e4 s4
  subst e1
  subst e2
  subst e3
  subst e4
  go_enter Try.func16, Try.ntmps16
  go_upto_region 1 with fail
  obtain ⟨A, hAe, hB, bA⟩ := blk1 w (cgC k (.slice q2 n2 c2) (.slice q3 n3 c3)) 26
  rw [hAe]
  obtain ⟨d0, d1, d2⟩ := cellsG hB
  have hbv := Below.refl A.heap.size A
  clear hAe hB
  by_cases k2 : k = 2
  · have z2 : (k == 2) = true := by rw [k2]; rfl
    go_wp2_with fail
    refine (gints_any (.slice q1 n1 c1) (.slice q2 n2 c2) lw xo A (hw.keep bA) (ho.keep bA) (by omega) (by omega)).mono ?_
    rintro e W1 ⟨rfl, b1⟩
    have bW := ab_trans bA b1
    cases hq : decide (lw = xo)
    · have haf : aft lw ⟨k, xo, xn⟩ lx = decide (lx = lw) := by
        unfold aft
        rw [if_neg (fun h => by have := of_decide_eq_false hq; exact this h.2)]
      have HF : Hid (aft lw ⟨k, xo, xn⟩ lx = decide (lx = lw)) := haf
      clear d0 d1 d2 hbv z2 k2 haf
      go_wp2_with fail
      refine (gints_any (.slice q4 n4 c4) (.slice q1 n1 c1) lx lw W1 (hx.keep bW) (hw.keep bW) (by omega) (by omega)).mono ?_
      rintro e W2 ⟨rfl, b2⟩
      go_wp2_with fail
      go_ret
      exact ⟨by rw [HF.out]; rfl, ab_trans bW b2⟩
    · have haf : aft lw ⟨k, xo, xn⟩ lx = decide (lx = xn) := by
        unfold aft
        rw [if_pos ⟨k2, of_decide_eq_true hq⟩]
      have HF : Hid (aft lw ⟨k, xo, xn⟩ lx = decide (lx = xn)) := haf
      have d2' := d2 W1 b1
      clear d0 d1 d2 hbv z2 k2 haf
      go_wp2_with fail
      refine (gints_any (.slice q4 n4 c4) (.slice q3 n3 c3) lx xn W1 (hx.keep bW) (hn.keep bW) (by omega) (by omega)).mono ?_
      rintro e W2 ⟨rfl, b2⟩
      go_wp2_with fail
      go_ret
      exact ⟨by rw [HF.out]; rfl, ab_trans bW b2⟩
  · have z2 : (k == 2) = false := by simp [k2]
    have haf : aft lw ⟨k, xo, xn⟩ lx = decide (lx = lw) := by
      unfold aft
      rw [if_neg (fun h => k2 h.1)]
    have HF : Hid (aft lw ⟨k, xo, xn⟩ lx = decide (lx = lw)) := haf
    clear k2 haf
    go_wp2_with fail
    refine (gints_any (.slice q4 n4 c4) (.slice q1 n1 c1) lx lw A (hx.keep bA) (hw.keep bA) (by omega) (by omega)).mono ?_
    rintro e W2 ⟨rfl, b2⟩
    go_wp2_with fail
    go_ret
    exact ⟨by rw [HF.out]; rfl, ab_trans bA b2⟩
/-- What is read of a net's round. -/
structure RdE (W : World) (b : Nat) (R : Rd) : Prop where
  c1 : ∀ V, Below W.heap.size W V → V.cell? ⟨b, 1, none⟩ = some (.int .i64 R.b.n)
  c2 : ∀ V, Below W.heap.size W V → V.cell? ⟨b, 2, none⟩ = some (.int .i64 R.b.nd)
  c3 : ∀ V, Below W.heap.size W V → V.cell? ⟨b, 3, none⟩ = some (.int .i64 R.b.lf)
  c7 : ∀ V, Below W.heap.size W V → V.cell? ⟨b, 7, none⟩ = some (.int .i64 (R.st : Int))
  c10 : ∃ vv, (∀ V, Below W.heap.size W V → V.cell? ⟨b, 10, none⟩ = some vv ∧ Is V vv R.v) ∧ ∀ V, Below W.heap.size W V → V.cell? ⟨b, 11, none⟩ = some (errV R.e)
theorem Rn.rde {G : Nat → Prop} {W : World} {B b mp ma : Nat} {R : Rd} (h : Rn G W B b mp ma R) : RdE W b R := by
  obtain ⟨-, r1, r2, r3, -, -, -⟩ := hear_cells h
  obtain ⟨vv, h10, h11, hi⟩ := rn_val h
  exact ⟨r1, r2, r3, fun V hb => rn_stage (h.keep hb) rfl, vv, fun V hb => ⟨keep_cell hb h10 h.lt, hi.is.keep hb⟩, fun V hb => keep_cell hb h11 h.lt⟩
end Go.Proofs.Ytodmhohccclhmaa
