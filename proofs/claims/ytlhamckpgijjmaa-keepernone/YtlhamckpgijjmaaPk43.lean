/-
  Keeper: Handle of a note that has no answer, and of a nil keeper.
-/
import Derived.Test.YtlhamckpgijjmaaPk42
namespace Go.Proofs.Ytlhamckpgijjmaa
open Go.RowKit
set_option linter.unusedVariables false
set_option maxRecDepth 100000

theorem kasks_yes {N : Nt} {vn vo ve : Value} {w : World} (h : askB N) (h1 : Is w vn N.ns) (h2 : SR 5 k64 w vo N.os) (h3 : SR 76 ek w ve N.es) :
    Calls Try.prog 25 #[ntV N vn vo ve] w fun e w' => e = .returned (.bool true) ∧ Below w.heap.size w w' :=
  (kasks_any N vn vo ve w h1 h2 h3).mono fun e w' ⟨⟨b, he, hb⟩, hw⟩ => ⟨by rw [he, hb.2 h], hw⟩
theorem kasks_no {N : Nt} {vn vo ve : Value} {w : World} (h : ¬ askB N) (h1 : Is w vn N.ns) (h2 : SR 5 k64 w vo N.os) (h3 : SR 76 ek w ve N.es) :
    Calls Try.prog 25 #[ntV N vn vo ve] w fun e w' => e = .returned (.bool false) ∧ Below w.heap.size w w' :=
  (kasks_any N vn vo ve w h1 h2 h3).mono fun e w' ⟨⟨b, he, hb⟩, hw⟩ => ⟨by
    have : b = false := by cases b with | false => rfl | true => exact absurd (hb.1 rfl) h
    rw [he, this], hw⟩
set_option maxHeartbeats 2000000 in
theorem khandle_no (kb d : Nat) (node : Int) (os : List KD) (N : Nt) (vn vo ve : Value) (w : World) (hk : Blk w kb (kpC d node os) 70) (h1 : Is w vn N.ns) (h2 : SR 5 k64 w vo N.os) (h3 : SR 76 ek w ve N.es) (hno : N.t ≠ node ∨ ¬ askB N) :
    Calls Try.prog 12 #[tptr kb, ntV N vn vo ve] w fun e w' => e = .returned (.slice none 0 0) ∧ Below w.heap.size w w' := by
  have HA : Hid (¬ askB N → ∀ V, Below w.heap.size w V → Calls Try.prog 25 #[ntV N vn vo ve] V fun e w' => e = .returned (.bool false) ∧ Below V.heap.size V w') := fun h V hV => kasks_no h (h1.keep hV) (h2.keep hV) (h3.keep hV)
  have HO : Hid (N.t ≠ node ∨ ¬ askB N) := hno
  clear hno
  obtain ⟨q1, c1, e1⟩ := h1.form
  obtain ⟨q2, c2, -, -, e2, -⟩ := id h2
  obtain ⟨q3, c3, -, -, e3, -⟩ := id h3
  obtain ⟨k, f, t, ns, xs, es⟩ := N
  dsimp only at e1 e2 e3 HA HO ⊢
  generalize ns.length = n1 at *
  generalize xs.length = n2 at *
  generalize es.length = n3 at *
  subst e1
  subst e2
  subst e3
  clear h1 h2 h3
  go_enter Try.func12, Try.ntmps12
  go_upto_region 1 with fail
  obtain ⟨A, hAe, hB, bA⟩ := blk1 w (ntC k f t (.slice q1 n1 c1) (.slice q2 n2 c2) (.slice q3 n3 c3)) 35
  rw [show w.alloc (.cells _ 35) = A from hAe]
  clear hAe
  have hkA := hk.keep bA
  have y0 : ∀ y : Cls A, y.val.cell? ⟨w.heap.size, 0, none⟩ = some (.int .i64 k) := fun y => (hB.keep y.prop).at (i := 0) rfl
  have y1 : ∀ y : Cls A, y.val.cell? ⟨w.heap.size, 1, none⟩ = some (.int .i64 f) := fun y => (hB.keep y.prop).at (i := 1) rfl
  have y2 : ∀ y : Cls A, y.val.cell? ⟨w.heap.size, 2, none⟩ = some (.int .i64 t) := fun y => (hB.keep y.prop).at (i := 2) rfl
  have y3 : ∀ y : Cls A, y.val.cell? ⟨w.heap.size, 3, none⟩ = some (.slice q1 n1 c1) := fun y => (hB.keep y.prop).at (i := 3) rfl
  have y4 : ∀ y : Cls A, y.val.cell? ⟨w.heap.size, 4, none⟩ = some (.slice q2 n2 c2) := fun y => (hB.keep y.prop).at (i := 4) rfl
  have y5 : ∀ y : Cls A, y.val.cell? ⟨w.heap.size, 5, none⟩ = some (.slice q3 n3 c3) := fun y => (hB.keep y.prop).at (i := 5) rfl
  have k1 : ∀ y : Cls A, y.val.cell? ⟨kb, 1, none⟩ = some (.int .i64 node) := fun y => (kp_0 (hkA.keep y.prop)).2
  have HZ := cls_some A
  by_cases ht : t = node
  · have zt : (t != node) = false := by rw [ht]; simp
    have hn : ¬ askB ⟨k, f, t, ns, xs, es⟩ := by
      rcases HO.out with h | h
      · exact absurd ht h
      · exact h
    have HQ : ∀ y : Cls A, Calls Try.prog 25 #[.agg #[.int .i64 k, .int .i64 f, .int .i64 t, .slice q1 n1 c1, .slice q2 n2 c2, .slice q3 n3 c3]] y.val fun e w' => e = .returned (.bool false) ∧ Below y.val.heap.size y.val w' := fun y => HA.out hn y.val (ab_trans bA y.prop)
    clear ht hn
    refine wp_region_below (by kernel_rfl) (by kernel_rfl) ?_
    repeat (go_big_quiet_step (fail))
    go_big_quiet_step (first | (go_at_call 25; exact calls_below (HQ _)))
    repeat (go_big_quiet_step (fail))
    refine wpQuiet_nil ?_
    rintro _ ⟨y, rfl⟩
    obtain ⟨V4, b4⟩ := y
    dsimp only
    clear y0 y1 y2 y3 y4 y5 k1 HZ
    go_wp2_with fail
    go_ret
    exact ⟨rfl, ab_trans bA b4⟩
  · have zt : (t != node) = true := by simp [ht]
    clear ht
    refine wp_region_below (by kernel_rfl) (by kernel_rfl) ?_
    repeat (go_big_quiet_step (fail))
    refine wpQuiet_nil ?_
    rintro _ ⟨y, rfl⟩
    obtain ⟨V4, b4⟩ := y
    dsimp only
    clear y0 y1 y2 y3 y4 y5 k1 HZ
    go_wp2_with fail
    go_ret
    exact ⟨rfl, ab_trans bA b4⟩
set_option maxHeartbeats 1000000 in
theorem khandle_nil (N : Nt) (q1 q2 q3 : Option Addr) (n1 n2 n3 c1 c2 c3 : Nat) (w : World) :
    Calls Try.prog 12 #[.pointer none, ntV N (.slice q1 n1 c1) (.slice q2 n2 c2) (.slice q3 n3 c3)] w fun e w' => e = .returned (.slice none 0 0) ∧ Below w.heap.size w w' := by
  obtain ⟨k, f, t, ns, xs, es⟩ := N
  go_enter Try.func12, Try.ntmps12
  go_upto_region 1 with fail
  obtain ⟨A, hAe, hB, bA⟩ := blk1 w (ntC k f t (.slice q1 n1 c1) (.slice q2 n2 c2) (.slice q3 n3 c3)) 35
  rw [show w.alloc (.cells _ 35) = A from hAe]
  clear hAe
  have HZ := cls_some A
  refine wp_region_below (by kernel_rfl) (by kernel_rfl) ?_
  repeat (go_big_quiet_step (fail))
  refine wpQuiet_nil ?_
  rintro _ ⟨y, rfl⟩
  obtain ⟨V4, b4⟩ := y
  dsimp only
  clear HZ
  go_wp2_with fail
  go_ret
  exact ⟨rfl, ab_trans bA b4⟩
end Go.Proofs.Ytlhamckpgijjmaa
