/-
  Keeper: Handle of a note that is kept, where the diary has few rows.
-/
import Derived.Test.YtlhamckpgijjmaaPk47
namespace Go.Proofs.Ytlhamckpgijjmaa
open Go.RowKit
set_option linter.unusedVariables false
set_option maxRecDepth 100000

/-- What is answered where a note is kept. -/
def HkP (w w' : World) (base b : Nat) (v : Value) (d kb : Nat) (S : TS) (nr nb : Nat) (node : Int) (os : List KD) (key : Nat) (k f t : Int) (ns : List Int) (r : Rg) (e : Ending) : Prop :=
  ∃ v', Km b d kb w w' v v' ∧
    (wrN S (frm (rowB (key : Int) r)) ≠ 0 → e = .returned (.slice none 0 0) ∧ Kp w' base b v' d kb (wrS S (frm (rowB (key : Int) r))) nr nb node os) ∧
    (wrN S (frm (rowB (key : Int) r)) = 0 → ∃ q n c, Kp w' base b v' d kb (wrS S (frm (rowB (key : Int) r))) (nr + 1) (nb + (8 + (rowB (key : Int) r).length)) node (os.set key ⟨r.p, r.a, .slice q n c, r.l⟩) ∧
      AnP w' w.heap.size (if k = 3 then 4 else 2) t f (ns.take 4 ++ (if k = 3 then [] else nmB r.a ++ r.l)) e)
theorem Km.pre {b d kb : Nat} {w w' w'' : World} {v v' : Value} (hb : Below w.heap.size w w') (m : Km b d kb w' w'' v v') : Km b d kb w w'' v v' :=
  ⟨m.os.trans hb.os, m.tape.trans hb.tape, m.output.trans hb.output, Nat.le_trans hb.size m.size, fun k hk h1 h2 h3 h4 => (m.other k (Nat.lt_of_lt_of_le hk hb.size) h1 h2 h3 h4).trans (hb.block k hk), fun x hx => (m.next x hx).imp id (fun h => Nat.le_trans hb.size h)⟩
set_option maxHeartbeats 8000000 in
theorem khandle_keep (base b : Nat) (v0 : Value) (d kb key : Nat) (S : TS) (nr nb : Nat) (node : Int) (os : List KD) (x : KD) (N : Nt) (vn vo ve : Value) (w : World) (hKp : Kp w base b v0 d kb S nr nb node os) (hst : S.steps < 4611686018427387000) (hnr : nr ≤ 200) (hnb : nb ≤ 4611686018427387904) (hikA : Ik w base vn N.ns) (h2 : SR 5 k64 w vo N.os) (h3 : SR 76 ek w ve N.es) (ht : N.t = node) (hA : askB N) (hkey : N.ns.getD 0 0 = (key : Int)) (hx : os[key]? = some x) (h100 : key < 100) (hl : x.l.length ≤ 1000) (h11 : skN N.k (rgK x) N.ns = 0) (h6 : In64 (nmR (skR N.k (rgK x) N.ns))) (hrl9 : (skR N.k (rgK x) N.ns).l.length ≤ 900) :
    Calls Try.prog 12 #[tptr kb, ntV N vn vo ve] w fun e w' => HkP w w' base b v0 d kb S nr nb node os key N.k N.f N.t N.ns (skR N.k (rgK x) N.ns) e := by
  have hrl : (skR N.k (rgK x) N.ns).l.length ≤ 1000 := Nat.le_trans hrl9 (by omega)
  have h1 := hikA.is
  have hk := hKp.kp
  have hi := (hKp.im x (List.mem_of_getElem? hx)).is
  have HA : Hid (∀ V, Below w.heap.size w V → Calls Try.prog 25 #[ntV N vn vo ve] V fun e w' => e = .returned (.bool true) ∧ Below V.heap.size V w') := fun V hV => kasks_yes hA (h1.keep hV) (h2.keep hV) (h3.keep hV)
  have h4 : 4 ≤ N.ns.length := (good_four hA.2.1 hA.1).1
  obtain ⟨q1, c1, e1⟩ := h1.form
  obtain ⟨q2, c2, -, -, e2, -⟩ := id h2
  obtain ⟨q3, c3, -, -, e3, -⟩ := id h3
  obtain ⟨k, f, t, ns, xs, es⟩ := N
  dsimp only at e1 e2 e3 HA h4 h1 ht hkey h11 h6 hrl hrl9 hikA ⊢
  obtain ⟨n1, hn1⟩ : ∃ n, ns.length = n := ⟨_, rfl⟩
  rw [hn1] at e1 h4
  generalize xs.length = n2 at *
  generalize es.length = n3 at *
  subst e1
  subst e2
  subst e3
  subst ht
  clear h2 h3 hA
  have hik : Hid (Ik w base (.slice q1 n1 c1) ns) := hikA
  clear hikA
  obtain ⟨p, a, v, l⟩ := x
  dsimp only at hi hl h11 ⊢
  obtain ⟨q4, c4, e4⟩ := hi.form
  obtain ⟨n4, hn4⟩ : ∃ n, l.length = n := ⟨_, rfl⟩
  rw [hn4] at e4
  subst e4
  go_enter Try.func12, Try.ntmps12
  go_upto_region 1 with fail
  obtain ⟨A, hAe, hB, bA⟩ := blk1 w (ntC k f t (.slice q1 n1 c1) (.slice q2 n2 c2) (.slice q3 n3 c3)) 35
  rw [show w.alloc (.cells _ 35) = A from hAe]
  clear hAe
  have hkA := hk.keep bA
  have y0 : ∀ y : Cls A, y.val.cell? ⟨w.heap.size, 0, none⟩ = some (.int .i64 k) := fun y => (hB.keep y.prop).at (i := 0) rfl
  have y1 : ∀ y : Cls A, y.val.cell? ⟨w.heap.size, 1, none⟩ = some (.int .i64 f) := fun y => (hB.keep y.prop).at (i := 1) rfl
  have y2 : ∀ y : Cls A, y.val.cell? ⟨w.heap.size, 2, none⟩ = some (.int .i64 t) := fun y => (hB.keep y.prop).at (i := 2) rfl
  have y3 : ∀ y : Cls A, y.val.cell? ⟨w.heap.size, 3, none⟩ = some (.slice q1 n1 c1) := fun y => (hB.keep y.prop).at (i := 3) rfl
  have y4 : ∀ y : Cls A, y.val.cell? ⟨w.heap.size, 4, none⟩ = some (.slice q2 n2 c2) := fun y => (hB.keep y.prop).at (i := 4) rfl
  have y5 : ∀ y : Cls A, y.val.cell? ⟨w.heap.size, 5, none⟩ = some (.slice q3 n3 c3) := fun y => (hB.keep y.prop).at (i := 5) rfl
  have k1 : ∀ y : Cls A, y.val.cell? ⟨kb, 1, none⟩ = some (.int .i64 t) := fun y => (kp_0 (hkA.keep y.prop)).2
  have HZ := cls_some A
  have zt : (t != t) = false := by simp
  have HQ : ∀ y : Cls A, Calls Try.prog 25 #[.agg #[.int .i64 k, .int .i64 f, .int .i64 t, .slice q1 n1 c1, .slice q2 n2 c2, .slice q3 n3 c3]] y.val fun e w' => e = .returned (.bool true) ∧ Below y.val.heap.size y.val w' := fun y => HA.out y.val (ab_trans bA y.prop)
  refine wp_region_below (by kernel_rfl) (by kernel_rfl) ?_
  repeat (go_big_quiet_step (fail))
  go_big_quiet_step (first | (go_at_call 25; exact calls_below (HQ _)))
  repeat (go_big_quiet_step (fail))
  refine wpQuiet_nil ?_
  rintro _ ⟨y, rfl⟩
  obtain ⟨V, b4⟩ := y
  dsimp only
  clear y0 y1 y2 y3 y4 y5 k1 HZ HQ HA zt
  have bV := ab_trans bA b4
  have hBV := hB.keep b4
  have hkV := hkA.keep b4
  have inV := h1.keep bV
  have irV := hi.keep bV
  obtain ⟨g0, o0, hq0, hg0, row0⟩ := inV.at (by omega)
  obtain ⟨x0, hx0⟩ : ∃ x, ns[0]? = some x := ⟨ns[0]'(by omega), List.getElem?_eq_getElem _⟩
  have hd0 : x0 = (key : Int) := by rw [← hkey, List.getD_eq_getElem?_getD, hx0]; rfl
  have m0 := row0 0 x0 hx0
  rw [Nat.add_zero, hd0] at m0
  have hl1 := inV.len
  have hc1 := hl1.2.1
  have hc2 := hl1.2.2
  obtain rfl := hq0
  have h0i : (0 : Int) < (n1 : Int) := by omega
  have h0n : 0 < n1 := by omega
  have ki : (key : Int) < 100 := by omega
  have d3 := hBV.at (i := 3) rfl
  have C : ∀ i u, i < 7 → (encK ⟨p, a, .slice q4 n4 c4, l⟩)[i]? = some u → V.cell? ⟨kb, 2 + key * 7 + i, none⟩ = some u := fun i u hi hu => kp_at hkV hx hi hu
  have x0' : V.cell? ⟨kb, 2 + key * 7, none⟩ = some (.int .i64 p.n) := C 0 _ (by omega) rfl
  have x1 : V.cell? ⟨kb, 2 + key * 7 + 1, none⟩ = some (.int .i64 p.nd) := C 1 _ (by omega) rfl
  have x2 : V.cell? ⟨kb, 2 + key * 7 + 2, none⟩ = some (.int .i64 p.lf) := C 2 _ (by omega) rfl
  have x3 : V.cell? ⟨kb, 2 + key * 7 + 3, none⟩ = some (.int .i64 a.n) := C 3 _ (by omega) rfl
  have x4 : V.cell? ⟨kb, 2 + key * 7 + 4, none⟩ = some (.int .i64 a.nd) := C 4 _ (by omega) rfl
  have x5 : V.cell? ⟨kb, 2 + key * 7 + 5, none⟩ = some (.int .i64 a.lf) := C 5 _ (by omega) rfl
  have x6 : V.cell? ⟨kb, 2 + key * 7 + 6, none⟩ = some (.slice q4 n4 c4) := C 6 _ (by omega) rfl
  clear C hl1 hd0 row0 hx0
  go_upto_region 5 with fail
  obtain ⟨V1, hVe, hR, bV1⟩ := blk1 V (rC p a (.slice q4 n4 c4)) 40
  rw [show V.alloc (.cells _ 40) = V1 from hVe]
  clear hVe x0' x1 x2 x3 x4 x5 x6 d3 m0
  have bW1 := ab_trans bV bV1
  have hN1 := hBV.keep bV1
  have t0 := hR.at (i := 0) rfl
  have t1 := hR.at (i := 1) rfl
  have t2 := hR.at (i := 2) rfl
  have t3 := hR.at (i := 3) rfl
  have t4 := hR.at (i := 4) rfl
  have t5 := hR.at (i := 5) rfl
  have t6 := hR.at (i := 6) rfl
  have s0 := hN1.at (i := 0) rfl
  have s1 := hN1.at (i := 1) rfl
  have s2 := hN1.at (i := 2) rfl
  have s3 := hN1.at (i := 3) rfl
  have s4 := hN1.at (i := 4) rfl
  have s5 := hN1.at (i := 5) rfl
  go_wp2_with fail
  refine (kasked_any ⟨p, a, l⟩ (.slice q4 n4 c4) k f t (.slice (some ⟨g0, o0, none⟩) n1 c1) (.slice q2 n2 c2) (.slice q3 n3 c3) ns V1 (irV.keep bV1) (inV.keep bV1) (by rw [hn1]; exact h4) ⟨_, _, _, rfl⟩ ⟨_, _, _, rfl⟩).mono ?_
  rintro e W2 ⟨⟨q5, n5, c5, rfl, O5, hn5⟩, b2⟩
  rw [show skN k ⟨p, a, l⟩ ns = 0 from h11, show errV 0 = .nilIface from rfl]
  clear t0 t1 t2 t3 t4 t5 t6 s0 s1 s2 s3 s4 s5
  go_upto_region 6 with fail
  obtain ⟨V2, hVe, hR2, bV2⟩ := blk1 W2 (rC (skR k ⟨p, a, l⟩ ns).p (skR k ⟨p, a, l⟩ ns).a (.slice q5 n5 c5)) 40
  rw [show W2.alloc (.cells _ 40) = V2 from hVe]
  clear hVe
  have b12 := ab_trans b2 bV2
  have hNV := hN1.keep b12
  have hRV := hR.keep b12
  have inW := (inV.keep bV1).keep b12
  have bW2 := ab_trans bW1 b12
  go_wp2_with fail
  refine (eis_nil V2).mono ?_
  rintro e V2 ⟨rfl, rfl⟩
  have hK2 := hKp.keep bW2
  have O52 : Io V2 base (.slice q5 n5 c5) (skR k ⟨p, a, l⟩ ns).l := (O5.keep bV2).less (Nat.le_trans (Nat.le_of_lt hKp.tp.lt) bW1.size)
  have HIK : Hid (Ik V2 base (.slice (some ⟨g0, o0, none⟩) n1 c1) ns) := hik.out.keep bW2
  have E1 := ne00
  have t0 := hR2.at (i := 0) rfl
  have t1 := hR2.at (i := 1) rfl
  have t2 := hR2.at (i := 2) rfl
  have t3 := hR2.at (i := 3) rfl
  have t4 := hR2.at (i := 4) rfl
  have t5 := hR2.at (i := 5) rfl
  have t6 := hR2.at (i := 6) rfl
  clear hik
  have hrl5 : n5 ≤ 900 := by rw [← hn5]; exact hrl9
  have hrl6 : (skR k ⟨p, a, l⟩ ns).l.length ≤ 900 := hrl9
  go_wp2_with fail
  refine (kkeep_few base b v0 d kb S nr nb t os key (skR k ⟨p, a, l⟩ ns) q5 n5 c5 V2 hK2 hst hnr hnb h100 O52 hrl h6 (rowB_byt _ _) (rowB_len _ _ hrl)).mono ?_
  rintro e W3 ⟨rfl, v', hz, hnz, km⟩
  have mwm : Km b d kb w W3 v0 v' := Km.pre bW2 km
  have hN3 : Blk W3 w.heap.size (ntC k f t (.slice (some ⟨g0, o0, none⟩) n1 c1) (.slice q2 n2 c2) (.slice q3 n3 c3)) 35 := hNV.km km hK2 (by decide) (by decide) (by decide) (by decide)
  have hR3 := hR2.km km hK2 (by decide) (by decide) (by decide) (by decide)
  have HI3 : Hid (Ik W3 base (.slice (some ⟨g0, o0, none⟩) n1 c1) ns) := HIK.out.km km hK2
  have O53 : Ik W3 base (.slice q5 n5 c5) (skR k ⟨p, a, l⟩ ns).l := Ik.km (.inl O52) km hK2
  have bs3 : w.heap.size ≤ W3.heap.size := mwm.size
  clear t0 t1 t2 t3 t4 t5 t6 km HIK O52
  rcases wrN_of S (frm (rowB (key : Int) (skR k ⟨p, a, l⟩ ns))) with hN | hN | hN | hN
  · rw [hN]
    rw [show errV 0 = .nilIface from rfl]
    have HN : Hid (wrN S (frm (rowB (key : Int) (skR k ⟨p, a, l⟩ ns))) = 0) := hN
    have hK3 := hz hN
    clear hN hz hnz
    have s0 := hN3.at (i := 0) rfl
    have s1 := hN3.at (i := 1) rfl
    have s2 := hN3.at (i := 2) rfl
    have s3 := hN3.at (i := 3) rfl
    have s4 := hN3.at (i := 4) rfl
    have s5 := hN3.at (i := 5) rfl
    by_cases k3 : k = 3
    · have z3 : (k == 3) = true := by rw [k3]; rfl
      have HK3 : Hid (k = 3) := k3
      clear k3
      go_wp2_with fail
      refine (kanswer_any k f t 4 (.slice (some ⟨g0, o0, none⟩) n1 c1) (.slice q2 n2 c2) (.slice q3 n3 c3) (.slice none 0 0) ns [] W3 HI3.out.is (by rw [hn1]; exact h4) (Is.nil _) (by simp)).mono ?_
      rintro e W5 ⟨⟨g5, q6, n6, c6, rfl, hg5, hB5, O6, hn6⟩, b5⟩
      clear s0 s1 s2 s3 s4 s5
      go_wp2_with fail
      go_ret
      refine ⟨v', mwm.below b5, fun h => absurd HN.out h, fun _ => ⟨q5, n5, c5, hK3.keep b5, ?_⟩⟩
      rw [if_pos HK3.out, if_pos HK3.out]
      exact ⟨g5, q6, n6, c6, rfl, Nat.le_trans bs3 hg5, hB5, O6.less bs3, hn6⟩
    · have z3 : (k == 3) = false := by simp [k3]
      have HK3 : Hid (¬ k = 3) := k3
      clear k3
      go_upto_region 12 with fail
      clear s0 s1 s2 s3 s4 s5
      refine region_L 7 (S := fun w' => Below W3.heap.size W3 w') (by kernel_rfl) ((Below.refl _ _).drew) (fun hHeld => ?_)
      have hdr : Below W3.heap.size W3 W3.drew := hHeld
      generalize W3.drew = V3 at *
      refine takeL (i := 0) [7] (some 63) (by rfl) rfl rfl (by kernel_rfl) (by kernel_rfl) (by kernel_rfl) (by kernel_rfl) (fun _ _ _ h => h) (by rfl) (fun w hSw => by (try dsimp only at hSw); (have hh := hN3.keep hSw; have t0 := hh.at (i := 0) rfl; have t1 := hh.at (i := 1) rfl; have t2 := hh.at (i := 2) rfl; have t3 := hh.at (i := 3) rfl; have t4 := hh.at (i := 4) rfl; have t5 := hh.at (i := 5) rfl; go_simp; try rfl)) hHeld ?_
      go_frame
      refine takeP (i := 1) (some 64) (by rfl) rfl rfl (by kernel_rfl) (by kernel_rfl) (by kernel_rfl) (fun _ _ _ h => h) (by rfl) (fun w => by go_simp; try rfl) hHeld ?_
      go_frame
      refine takeL (i := 2) [3, 6, 7] (some 65) (by rfl) rfl rfl (by kernel_rfl) (by kernel_rfl) (by kernel_rfl) (by kernel_rfl) (fun _ _ _ h => h) (by rfl) (fun w hSw => by (try dsimp only at hSw); (have hh := hR3.keep hSw; have t3 := hh.at (i := 3) rfl; have t4 := hh.at (i := 4) rfl; have t5 := hh.at (i := 5) rfl; go_simp; try rfl)) hHeld ?_
      go_frame
      refine takeP (i := 4) (some 67) (by rfl) rfl rfl (by kernel_rfl) (by kernel_rfl) (by kernel_rfl) (fun _ _ _ h => h) (by rfl) (fun w => by go_simp; try rfl) hHeld ?_
      go_frame
      refine takeL (i := 5) [6, 7] (some 68) (by rfl) rfl rfl (by kernel_rfl) (by kernel_rfl) (by kernel_rfl) (by kernel_rfl) (fun _ _ _ h => h) (by rfl) (fun w hSw => by (try dsimp only at hSw); (have hh := hR3.keep hSw; have t6 := hh.at (i := 6) rfl; go_simp; try rfl)) hHeld ?_
      go_frame
      refine anyL_ready (rs := [3]) (by kernel_rfl) (by simp) (AllL.cons rfl (fun K hK => ?_) AllL.nil)
      go_simp
      refine (knums_any (skR k ⟨p, a, l⟩ ns).a V3).mono ?_
      rintro e W4 ⟨v4, rfl, O4, b4'⟩
      show K _ _
      have hb4 := ab_trans hdr b4'
      refine hK.out _ _ hb4 (fun hHeld => ?_)
      clear hK K
      try go_frame
      refine anyL_ready (rs := [6]) (by kernel_rfl) (by simp) (AllL.cons rfl (fun K hK => ?_) AllL.nil)
      rw [if_pos (by rfl)]
      refine appiW V3 (some 69) rfl rfl rfl O4 rfl (O53.is.keep hb4) rfl (by show (3 + _) * 8 ≤ _; omega) b4' ?_
      intro v6 W6 own6 nn6 b6 gr6
      have hb6 := ab_trans hdr b6
      refine hK.out _ _ hb6 (fun hHeld => ?_)
      clear hK K
      try go_frame
      refine anyL_ready (rs := [7]) (by kernel_rfl) (by simp) (AllL.last rfl (by kernel_rfl) (fun K hK => ?_))
      go_simp
      refine (kanswer_any k f t 2 (.slice (some ⟨g0, o0, none⟩) n1 c1) (.slice q2 n2 c2) (.slice q3 n3 c3) v6 ns (nmB (skR k ⟨p, a, l⟩ ns).a ++ (skR k ⟨p, a, l⟩ ns).l) W6 (HI3.out.is.keep hb6) (by rw [hn1]; exact h4) (own_is own6) (by rw [List.length_append]; show 3 + _ ≤ 1000; omega)).mono ?_
      rintro e W5 ⟨⟨g5, q6, n6, c6, rfl, hg5, hB5, O6, hn6⟩, b5⟩
      show K _ _
      refine hK.out _ _ ?_
      clear hK K
      try go_frame
      refine anyL_ready (rs := [8]) (by kernel_rfl) (by simp) (AllL.free rfl (by kernel_rfl) (fun K hK => ?_))
      go_simp
      refine hK.out _ _ ?_
      clear hK K
      refine anyL_done (by kernel_rfl) ?_
      go_wp2_with fail
      go_ret
      have b35 := ab_trans hb6 b5
      refine ⟨v', mwm.below b35, fun h => absurd HN.out h, fun _ => ⟨q5, n5, c5, hK3.keep b35, ?_⟩⟩
      rw [if_neg HK3.out, if_neg HK3.out]
      exact ⟨g5, q6, n6, c6, rfl, Nat.le_trans bs3 (Nat.le_trans hb6.size hg5), hB5, O6.less (Nat.le_trans bs3 hb6.size), hn6⟩
  · rw [hN]
    rw [show errV 5 = Err 5 from rfl]
    have HN : Hid (wrN S (frm (rowB (key : Int) (skR k ⟨p, a, l⟩ ns))) = 5) := hN
    clear hN
    have E2 := ne5n
    go_wp2_with fail
    go_ret
    exact ⟨v', mwm, fun _ => ⟨rfl, hnz (by rw [HN.out]; omega)⟩, fun h => absurd ((show wrN S (frm (rowB (key : Int) (skR k ⟨p, a, l⟩ ns))) = 0 from h).symm.trans HN.out) (by decide)⟩
  · rw [hN]
    rw [show errV 6 = Err 6 from rfl]
    have HN : Hid (wrN S (frm (rowB (key : Int) (skR k ⟨p, a, l⟩ ns))) = 6) := hN
    clear hN
    have E2 := ne6n
    go_wp2_with fail
    go_ret
    exact ⟨v', mwm, fun _ => ⟨rfl, hnz (by rw [HN.out]; omega)⟩, fun h => absurd ((show wrN S (frm (rowB (key : Int) (skR k ⟨p, a, l⟩ ns))) = 0 from h).symm.trans HN.out) (by decide)⟩
  · rw [hN]
    rw [show errV 7 = Err 7 from rfl]
    have HN : Hid (wrN S (frm (rowB (key : Int) (skR k ⟨p, a, l⟩ ns))) = 7) := hN
    clear hN
    have E2 := ne70
    go_wp2_with fail
    go_ret
    exact ⟨v', mwm, fun _ => ⟨rfl, hnz (by rw [HN.out]; omega)⟩, fun h => absurd ((show wrN S (frm (rowB (key : Int) (skR k ⟨p, a, l⟩ ns))) = 0 from h).symm.trans HN.out) (by decide)⟩
end Go.Proofs.Ytlhamckpgijjmaa
