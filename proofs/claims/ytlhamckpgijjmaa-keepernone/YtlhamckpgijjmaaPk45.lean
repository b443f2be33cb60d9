/-
  Keeper: Handle of a note that asks what isn't in form.
-/
import Derived.Test.YtlhamckpgijjmaaPk44
namespace Go.Proofs.Ytlhamckpgijjmaa
open Go.RowKit
set_option linter.unusedVariables false
set_option maxRecDepth 100000

theorem ne2n (w : World) : (binOp .neq 28 (Err 2) .nilIface).run Try.prog w = .ok (.bool true) w := by kernel_rfl
set_option maxHeartbeats 4000000 in
theorem khandle_form (kb d key : Nat) (node : Int) (os : List KD) (x : KD) (N : Nt) (vn vo ve : Value) (w : World) (hk : Blk w kb (kpC d node os) 70) (h1 : Is w vn N.ns) (h2 : SR 5 k64 w vo N.os) (h3 : SR 76 ek w ve N.es) (ht : N.t = node) (hA : askB N) (hkey : N.ns.getD 0 0 = (key : Int)) (hx : os[key]? = some x) (h100 : key < 100) (hi : Is w x.v x.l) (hl : x.l.length ≤ 1000) (h11 : skN N.k (rgK x) N.ns = 2) :
    Calls Try.prog 12 #[tptr kb, ntV N vn vo ve] w fun e w' => e = .returned (.slice none 0 0) ∧ Below w.heap.size w w' := by
  have HA : Hid (∀ V, Below w.heap.size w V → Calls Try.prog 25 #[ntV N vn vo ve] V fun e w' => e = .returned (.bool true) ∧ Below V.heap.size V w') := fun V hV => kasks_yes hA (h1.keep hV) (h2.keep hV) (h3.keep hV)
  have h4 : 4 ≤ N.ns.length := (good_four hA.2.1 hA.1).1
  obtain ⟨q1, c1, e1⟩ := h1.form
  obtain ⟨q2, c2, -, -, e2, -⟩ := id h2
  obtain ⟨q3, c3, -, -, e3, -⟩ := id h3
  obtain ⟨k, f, t, ns, xs, es⟩ := N
  dsimp only at e1 e2 e3 HA h4 h1 ht hkey h11 ⊢
  obtain ⟨n1, hn1⟩ : ∃ n, ns.length = n := ⟨_, rfl⟩
  rw [hn1] at e1 h4
  generalize xs.length = n2 at *
  generalize es.length = n3 at *
  subst e1
  subst e2
  subst e3
  subst ht
  clear h2 h3 hA
  obtain ⟨p, a, v, l⟩ := x
  dsimp only at hi hl h11 ⊢
  obtain ⟨q4, c4, e4⟩ := hi.form
  obtain ⟨n4, hn4⟩ : ∃ n, l.length = n := ⟨_, rfl⟩
  rw [hn4] at e4
  subst e4
  go_enter Try.func12, Try.ntmps12
  go_upto_region 1 with fail
  obtain ⟨A, hAe, hB, bA⟩ := blk1 w (ntC k f t (.slice q1 n1 c1) (.slice q2 n2 c2) (.slice q3 n3 c3)) 35
  rw [show w.alloc (.cells _ 35) = A from hAe]
  clear hAe
  have hkA := hk.keep bA
  have y0 : ∀ y : Cls A, y.val.cell? ⟨w.heap.size, 0, none⟩ = some (.int .i64 k) := fun y => (hB.keep y.prop).at (i := 0) rfl
  have y1 : ∀ y : Cls A, y.val.cell? ⟨w.heap.size, 1, none⟩ = some (.int .i64 f) := fun y => (hB.keep y.prop).at (i := 1) rfl
  have y2 : ∀ y : Cls A, y.val.cell? ⟨w.heap.size, 2, none⟩ = some (.int .i64 t) := fun y => (hB.keep y.prop).at (i := 2) rfl
  have y3 : ∀ y : Cls A, y.val.cell? ⟨w.heap.size, 3, none⟩ = some (.slice q1 n1 c1) := fun y => (hB.keep y.prop).at (i := 3) rfl
  have y4 : ∀ y : Cls A, y.val.cell? ⟨w.heap.size, 4, none⟩ = some (.slice q2 n2 c2) := fun y => (hB.keep y.prop).at (i := 4) rfl
  have y5 : ∀ y : Cls A, y.val.cell? ⟨w.heap.size, 5, none⟩ = some (.slice q3 n3 c3) := fun y => (hB.keep y.prop).at (i := 5) rfl
  have k1 : ∀ y : Cls A, y.val.cell? ⟨kb, 1, none⟩ = some (.int .i64 t) := fun y => (kp_0 (hkA.keep y.prop)).2
  have HZ := cls_some A
  have zt : (t != t) = false := by simp
  have HQ : ∀ y : Cls A, Calls Try.prog 25 #[.agg #[.int .i64 k, .int .i64 f, .int .i64 t, .slice q1 n1 c1, .slice q2 n2 c2, .slice q3 n3 c3]] y.val fun e w' => e = .returned (.bool true) ∧ Below y.val.heap.size y.val w' := fun y => HA.out y.val (ab_trans bA y.prop)
  refine wp_region_below (by kernel_rfl) (by kernel_rfl) ?_
  repeat (go_big_quiet_step (fail))
  go_big_quiet_step (first | (go_at_call 25; exact calls_below (HQ _)))
  repeat (go_big_quiet_step (fail))
  refine wpQuiet_nil ?_
  rintro _ ⟨y, rfl⟩
  obtain ⟨V, b4⟩ := y
  dsimp only
  clear y0 y1 y2 y3 y4 y5 k1 HZ HQ HA zt
  have bV := ab_trans bA b4
  have hBV := hB.keep b4
  have hkV := hkA.keep b4
  have inV := h1.keep bV
  have irV := hi.keep bV
  obtain ⟨g0, o0, hq0, hg0, row0⟩ := inV.at (by omega)
  obtain ⟨x0, hx0⟩ : ∃ x, ns[0]? = some x := ⟨ns[0]'(by omega), List.getElem?_eq_getElem _⟩
  have hd0 : x0 = (key : Int) := by rw [← hkey, List.getD_eq_getElem?_getD, hx0]; rfl
  have m0 := row0 0 x0 hx0
  rw [Nat.add_zero, hd0] at m0
  have hl1 := inV.len
  have hc1 := hl1.2.1
  have hc2 := hl1.2.2
  subst hq0
  have h0i : (0 : Int) < (n1 : Int) := by omega
  have h0n : 0 < n1 := by omega
  have ki : (key : Int) < 100 := by omega
  have d3 := hBV.at (i := 3) rfl
  have C : ∀ i u, i < 7 → (encK ⟨p, a, .slice q4 n4 c4, l⟩)[i]? = some u → V.cell? ⟨kb, 2 + key * 7 + i, none⟩ = some u := fun i u hi hu => kp_at hkV hx hi hu
  have x0' : V.cell? ⟨kb, 2 + key * 7, none⟩ = some (.int .i64 p.n) := C 0 _ (by omega) rfl
  have x1 : V.cell? ⟨kb, 2 + key * 7 + 1, none⟩ = some (.int .i64 p.nd) := C 1 _ (by omega) rfl
  have x2 : V.cell? ⟨kb, 2 + key * 7 + 2, none⟩ = some (.int .i64 p.lf) := C 2 _ (by omega) rfl
  have x3 : V.cell? ⟨kb, 2 + key * 7 + 3, none⟩ = some (.int .i64 a.n) := C 3 _ (by omega) rfl
  have x4 : V.cell? ⟨kb, 2 + key * 7 + 4, none⟩ = some (.int .i64 a.nd) := C 4 _ (by omega) rfl
  have x5 : V.cell? ⟨kb, 2 + key * 7 + 5, none⟩ = some (.int .i64 a.lf) := C 5 _ (by omega) rfl
  have x6 : V.cell? ⟨kb, 2 + key * 7 + 6, none⟩ = some (.slice q4 n4 c4) := C 6 _ (by omega) rfl
  clear C hl1 hd0 row0 hx0
  go_upto_region 5 with fail
  obtain ⟨V1, hVe, hR, bV1⟩ := blk1 V (rC p a (.slice q4 n4 c4)) 40
  rw [show V.alloc (.cells _ 40) = V1 from hVe]
  clear hVe x0' x1 x2 x3 x4 x5 x6 d3 m0
  have bW1 := ab_trans bV bV1
  have hN1 := hBV.keep bV1
  have t0 := hR.at (i := 0) rfl
  have t1 := hR.at (i := 1) rfl
  have t2 := hR.at (i := 2) rfl
  have t3 := hR.at (i := 3) rfl
  have t4 := hR.at (i := 4) rfl
  have t5 := hR.at (i := 5) rfl
  have t6 := hR.at (i := 6) rfl
  have s0 := hN1.at (i := 0) rfl
  have s1 := hN1.at (i := 1) rfl
  have s2 := hN1.at (i := 2) rfl
  have s3 := hN1.at (i := 3) rfl
  have s4 := hN1.at (i := 4) rfl
  have s5 := hN1.at (i := 5) rfl
  go_wp2_with fail
  refine (kasked_any ⟨p, a, l⟩ (.slice q4 n4 c4) k f t (.slice (some ⟨g0, o0, none⟩) n1 c1) (.slice q2 n2 c2) (.slice q3 n3 c3) ns V1 (irV.keep bV1) (inV.keep bV1) (by rw [hn1]; exact h4) ⟨_, _, _, rfl⟩ ⟨_, _, _, rfl⟩).mono ?_
  rintro e W2 ⟨⟨q5, n5, c5, rfl, O5, hn5⟩, b2⟩
  rw [show skN k ⟨p, a, l⟩ ns = 2 from h11, show errV 2 = Err 2 from rfl]
  clear t0 t1 t2 t3 t4 t5 t6 s0 s1 s2 s3 s4 s5
  go_upto_region 6 with fail
  obtain ⟨V2, hVe, hR2, bV2⟩ := blk1 W2 (rC (skR k ⟨p, a, l⟩ ns).p (skR k ⟨p, a, l⟩ ns).a (.slice q5 n5 c5)) 40
  rw [show W2.alloc (.cells _ 40) = V2 from hVe]
  clear hVe
  have b12 := ab_trans b2 bV2
  have hNV := hN1.keep b12
  have hRV := hR.keep b12
  have inW := (inV.keep bV1).keep b12
  have bW2 := ab_trans bW1 b12
  go_wp2_with fail
  refine (eis_form V2).mono ?_
  rintro e V2 ⟨rfl, rfl⟩
  have E1 := ne2n
  go_wp2_with fail
  go_ret
  exact ⟨rfl, bW2⟩
end Go.Proofs.Ytlhamckpgijjmaa
