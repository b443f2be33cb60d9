/-
  Notes in form come back from their bytes, and bytes that are read have, written again, the same bytes: estuarylaw05.NoteBack returns true for every input; no condition.
-/
import Derived.Test.YtjbhicjnnghjjaaPk15
import Derived.Test.YtjbhicjnnghjjaaPk16
import Derived.ProofKit
import Derived.OpenShut
import Derived.ChangeOld
import Derived.Below
import Derived.Lib.SmallJoins
namespace Go.Proofs.Ytjbhicjnnghjjaa.noteBack
open Go.ChangeShapes Go.WideShapes Go.ChangeAt Go.RowKit Go.Joins
set_option linter.unusedVariables false

set_option maxHeartbeats 20000000 in
set_option maxRecDepth 100000 in
theorem walk {W : World} (N : Nt) (vn vo ve : Value) (hI : Is W vn N.ns) (hO : SR 5 k64 W vo N.os) (hE : SR 76 ek W ve N.es) (hN : WN N) (hL : LenN N) (v1 : Value) (b : List Nat) (S1 : Sl W v1 b) (B1 : Byt b) :
    Calls Try.prog 5 #[ntV N vn vo ve, v1] W fun e w' => e = .returned (.bool true) ∧ Below W.heap.size W w' := by
  obtain ⟨qb, cb, eb, -⟩ := id S1
  subst eb
  go_enter Try.func5, Try.ntmps5
  go_upto_region 1 with fail
  have hB := Blk.new W #[.int .i64 N.k, .int .i64 N.f, .int .i64 N.t, vn, vo, ve] 26
  have hA := ab_alloc (Below.refl W.heap.size W) (.cells #[.int .i64 N.k, .int .i64 N.f, .int .i64 N.t, vn, vo, ve] 26)
  generalize W.alloc (.cells #[.int .i64 N.k, .int .i64 N.f, .int .i64 N.t, vn, vo, ve] 26) = A at *
  have DP : Hid (∀ V, Below A.heap.size A V → Six V W.heap.size (.int .i64 N.k) (.int .i64 N.f) (.int .i64 N.t) vn vo ve) := fun V hb => six (hB.keep hb)
  have k1 := hI.keep hA
  have k2 := hO.keep hA
  have k3 := hE.keep hA
  have s1 := S1.keep hA
  clear hB hI hO hE S1
  go_upto_region 3 with (go_at_call 9; refine (alive5_any _).mono ?_; rintro e V1 ⟨rfl, b1⟩)
  obtain ⟨p0, p1, p2, p3, p4, p5, -, -, -, -, -, -⟩ := DP.out V1 b1
  go_wp2_with fail
  refine (large5_any N vn vo ve _ (k1.keep b1) (k2.keep b1) (k3.keep b1) hL).mono ?_
  rintro e V2 ⟨⟨z, rfl, hz⟩, b2⟩
  have bb2 := ab_trans b1 b2
  clear p0 p1 p2 p3 p4 p5 b1 b2
  cases z with
  | true =>
    go_wp2_with fail
    go_ret
    exact ⟨rfl, ab_trans hA bb2⟩
  | false =>
    have h500 := hz rfl
    clear hz
    generalize hbl : b.length = nb at *
    by_cases hbig : 32768 < nb
    · go_wp2_with fail
      go_ret
      exact ⟨rfl, ab_trans hA bb2⟩
    · have hdb : decide (32768 < (nb : Int)) = false := decide_eq_false (by omega)
      obtain ⟨p0, p1, p2, p3, p4, p5, -, -, -, -, -, -⟩ := DP.out V2 bb2
      by_cases g : GoodN N
      · go_upto_region 6 with (go_at_call 12; refine (encode_ok N vn vo ve _ (k1.keep bb2) (k2.keep bb2) (k3.keep bb2) hN g).mono ?_; rintro e V3 ⟨v3, rfl, O3, b3⟩; have S3 := O3.sl; obtain ⟨q3, c3, e3, -⟩ := id S3; subst e3)
        have bb3 := ab_trans bb2 b3
        clear p0 p1 p2 p3 p4 p5 b3 bb2 O3
        obtain ⟨p0, p1, p2, p3, p4, p5, -, -, -, -, -, -⟩ := DP.out V3 bb3
        have h00 := eq00
        go_upto_region 7 with (go_at_call 15; refine (check_any N vn vo ve _ (k1.keep bb3) (k2.keep bb3) (k3.keep bb3)).mono ?_; rintro e V4 ⟨hck, b4⟩; obtain rfl := hck.1 g; clear hck)
        have bb4 := ab_trans bb3 b4
        have S4 := S3.keep b4
        clear p0 p1 p2 p3 p4 p5 b4 bb3 S3 h00
        go_upto_region 8 with (go_at_call 19; refine (decode_back N _ _ hN g S4).mono ?_; rintro e V5 ⟨M, q1, n1, c1, q2, n2, c2, q4, n4, c4, hs, hWM, rfl, On, Oo, Oe, b5⟩)
        have hA5 := ab_alloc (Below.refl V5.heap.size V5) (.cells #[.int .i64 M.k, .int .i64 M.f, .int .i64 M.t, .slice q1 n1 c1, .slice q2 n2 c2, .slice q4 n4 c4] 26)
        have hB5 := Blk.new V5 #[.int .i64 M.k, .int .i64 M.f, .int .i64 M.t, .slice q1 n1 c1, .slice q2 n2 c2, .slice q4 n4 c4] 26
        have m1 := On.is.keep hA5
        have m2 := (Oo.sr (by omega)).keep hA5
        have m3 := (Oe.sr (by omega)).keep hA5
        have bb6 := ab_trans (ab_trans bb4 b5) hA5
        clear On Oo Oe b5 bb4 S4 hA5
        generalize V5.alloc (.cells #[.int .i64 M.k, .int .i64 M.f, .int .i64 M.t, .slice q1 n1 c1, .slice q2 n2 c2, .slice q4 n4 c4] 26) = V6 at *
        generalize V5.heap.size = B5 at *
        have DM : Hid (∀ V, Below V6.heap.size V6 V → Six V B5 (.int .i64 M.k) (.int .i64 M.f) (.int .i64 M.t) (.slice q1 n1 c1) (.slice q2 n2 c2) (.slice q4 n4 c4)) := fun V hb => six (hB5.keep hb)
        have DQ : Hid (∀ V, Below V6.heap.size V6 V → Six V W.heap.size (.int .i64 N.k) (.int .i64 N.f) (.int .i64 N.t) vn vo ve) := fun V hb => DP.out V (ab_trans bb6 hb)
        have k61 := k1.keep bb6
        have k62 := k2.keep bb6
        have k63 := k3.keep bb6
        clear hB5 DP k1 k2 k3
        have hz0 := ne00
        obtain ⟨p0, p1, p2, p3, p4, p5, -, -, -, -, -, -⟩ := DQ.out V6 (Below.refl _ _)
        obtain ⟨r0, r1, r2, r3, r4, r5, -, -, -, -, -, -⟩ := DM.out V6 (Below.refl _ _)
        go_upto_region 12 with (first
          | (go_at_call 22; refine (nsame_any M N _ _ _ _ _ _ _ m1 m2 m3 k61 k62 k63).mono ?_; rintro r V7 ⟨hz7, b7⟩; obtain rfl := biff_true hz7 hs; clear hz7; have bb7 := b7; obtain ⟨p0, p1, p2, p3, p4, p5, -, -, -, -, -, -⟩ := DQ.out _ bb7; obtain ⟨r0, r1, r2, r3, r4, r5, -, -, -, -, -, -⟩ := DM.out _ bb7)
          | (go_at_call 17; refine (rsame_any M N _ _ _ _ _ _ _ (m1.keep bb7) (m2.keep bb7) (m3.keep bb7) (k61.keep bb7) (k62.keep bb7) (k63.keep bb7)).mono ?_; rintro r V8 ⟨hz8, b8⟩; obtain rfl := biff_true hz8 hs; clear hz8))
        have hw := ab_trans hA (ab_trans bb6 (ab_trans bb7 b8))
        have s9 := s1.keep (ab_trans bb6 (ab_trans bb7 b8))
        clear p0 p1 p2 p3 p4 p5 r0 r1 r2 r3 r4 r5 m1 m2 m3 k61 k62 k63 DM DQ bb6 bb7 b8 b7 s1 hA hs hWM hz0
        generalize V8 = V at *
        go_upto_region 13 with (go_at_call 19; refine (decode_any _ b _ s9 B1 (by omega)).mono ?_; rintro e W5 ⟨hdc, b5⟩; obtain ⟨er, k, f, t, q1, n1, c1, q2, n2, c2, q4, n4, c4, rfl, hers⟩ := dc_one hdc; clear hdc)
        have hA5 := ab_alloc (Below.refl W5.heap.size W5) (.cells #[.int .i64 k, .int .i64 f, .int .i64 t, .slice q1 n1 c1, .slice q2 n2 c2, .slice q4 n4 c4] 26)
        have hB5 := Blk.new W5 #[.int .i64 k, .int .i64 f, .int .i64 t, .slice q1 n1 c1, .slice q2 n2 c2, .slice q4 n4 c4] 26
        have hw5 := ab_trans hw (ab_trans b5 hA5)
        have s10 := s9.keep (ab_trans b5 hA5)
        rcases hers with rfl | rfl | ⟨rfl, M, rfl, rfl, rfl, hWM, gM, hbM, On, Oo, Oe⟩
        · clear hA5 hB5 s10 s9
          have e1 := ne30
          have e2 := eq33
          go_wp2_with fail
          go_ret
          exact ⟨rfl, hw5⟩
        · clear hA5 hB5 s10 s9
          have e1 := ne40
          have e2 := eq43
          have e3 := eq44
          go_wp2_with fail
          go_ret
          exact ⟨rfl, hw5⟩
        · have m1 := On.is.keep hA5
          have m2 := (Oo.sr (by omega)).keep hA5
          have m3 := (Oe.sr (by omega)).keep hA5
          clear On Oo Oe hA5 s9 b5
          generalize W5.alloc (.cells #[.int .i64 M.k, .int .i64 M.f, .int .i64 M.t, .slice q1 n1 c1, .slice q2 n2 c2, .slice q4 n4 c4] 26) = V6 at *
          generalize W5.heap.size = B5 at *
          obtain ⟨r0, r1, r2, r3, r4, r5, -, -, -, -, -, -⟩ := six hB5
          have e1 := ne00
          go_upto_region 16 with (go_at_call 12; refine (encode_ok M _ _ _ _ m1 m2 m3 hWM gM).mono ?_; rintro e V7 ⟨v7, rfl, O7, b7⟩)
          rw [hbM] at O7
          have hc1 := sl_str O7.sl
          have hc2 := sl_str (s10.keep b7)
          have e2 := eq00
          have hw7 := ab_trans hw5 b7
          clear m1 m2 m3 r0 r1 r2 r3 r4 r5 e1 O7 hWM gM hB5 s10
          go_wp2_with fail
          go_ret
          exact ⟨rfl, hw7⟩
      · go_upto_region 6 with (go_at_call 12; refine (encode_no N vn vo ve _ (k1.keep bb2) (k2.keep bb2) (k3.keep bb2) g).mono ?_; rintro e V3 ⟨rfl, b3⟩)
        have bb3 := ab_trans bb2 b3
        clear p0 p1 p2 p3 p4 p5 b3 bb2
        obtain ⟨p0, p1, p2, p3, p4, p5, -, -, -, -, -, -⟩ := DP.out V3 bb3
        have h20 := eq20
        go_upto_region 10 with (go_at_call 15; refine (check_any N vn vo ve _ (k1.keep bb3) (k2.keep bb3) (k3.keep bb3)).mono ?_; rintro e V4 ⟨hck, b4⟩; obtain rfl := hck.2 g; clear hck)
        have bb4 := ab_trans bb3 b4
        clear p0 p1 p2 p3 p4 p5 b4 bb3 h20
        have h22 := ne22
        go_upto_region 12 with fail
        have hw := ab_trans hA bb4
        have s9 := s1.keep bb4
        clear k1 k2 k3 DP bb4 s1 hA h22
        generalize V4 = V at *
        go_upto_region 13 with (go_at_call 19; refine (decode_any _ b _ s9 B1 (by omega)).mono ?_; rintro e W5 ⟨hdc, b5⟩; obtain ⟨er, k, f, t, q1, n1, c1, q2, n2, c2, q4, n4, c4, rfl, hers⟩ := dc_one hdc; clear hdc)
        have hA5 := ab_alloc (Below.refl W5.heap.size W5) (.cells #[.int .i64 k, .int .i64 f, .int .i64 t, .slice q1 n1 c1, .slice q2 n2 c2, .slice q4 n4 c4] 26)
        have hB5 := Blk.new W5 #[.int .i64 k, .int .i64 f, .int .i64 t, .slice q1 n1 c1, .slice q2 n2 c2, .slice q4 n4 c4] 26
        have hw5 := ab_trans hw (ab_trans b5 hA5)
        have s10 := s9.keep (ab_trans b5 hA5)
        rcases hers with rfl | rfl | ⟨rfl, M, rfl, rfl, rfl, hWM, gM, hbM, On, Oo, Oe⟩
        · clear hA5 hB5 s10 s9
          have e1 := ne30
          have e2 := eq33
          go_wp2_with fail
          go_ret
          exact ⟨rfl, hw5⟩
        · clear hA5 hB5 s10 s9
          have e1 := ne40
          have e2 := eq43
          have e3 := eq44
          go_wp2_with fail
          go_ret
          exact ⟨rfl, hw5⟩
        · have m1 := On.is.keep hA5
          have m2 := (Oo.sr (by omega)).keep hA5
          have m3 := (Oe.sr (by omega)).keep hA5
          clear On Oo Oe hA5 s9 b5
          generalize W5.alloc (.cells #[.int .i64 M.k, .int .i64 M.f, .int .i64 M.t, .slice q1 n1 c1, .slice q2 n2 c2, .slice q4 n4 c4] 26) = V6 at *
          generalize W5.heap.size = B5 at *
          obtain ⟨r0, r1, r2, r3, r4, r5, -, -, -, -, -, -⟩ := six hB5
          have e1 := ne00
          go_upto_region 16 with (go_at_call 12; refine (encode_ok M _ _ _ _ m1 m2 m3 hWM gM).mono ?_; rintro e V7 ⟨v7, rfl, O7, b7⟩)
          rw [hbM] at O7
          have hc1 := sl_str O7.sl
          have hc2 := sl_str (s10.keep b7)
          have e2 := eq00
          have hw7 := ab_trans hw5 b7
          clear m1 m2 m3 r0 r1 r2 r3 r4 r5 e1 O7 hWM gM hB5 s10
          go_wp2_with fail
          go_ret
          exact ⟨rfl, hw7⟩

theorem own : ownKnob Try.prog.godebug = none := by kernel_rfl
theorem laidOut : laidOutB Try.prog = true := by kernel_rfl

set_option maxRecDepth 100000 in
theorem lifted (os : Os) (started : os.Started) (H : Type) (enc : TypeId × Value → H) :
    ReturnsInHanded {} Try.checked os 5 .any (Rows.noteBackSpec.pre6 enc Try.prog Try.f5 Rows.noteBackRow.domain false) (Rows.noteBackSpec.post enc Try.prog Try.f5 false true false false) := by
  refine returnsInHanded_of_change_sized (C := Try.checked) own started (by kernel_rfl) Try.func5
    (ChangeSpec.witness6 (enc := enc) (C := Try.checked) false ⟨#[], #[.agg #[.int .i64 0, .int .i64 0, .int .i64 0, .slice none 0 0, .slice none 0 0, .slice none 0 0], .slice none 0 0], []⟩ 8 (by kernel_rfl) (by kernel_rfl) (by kernel_rfl) (by kernel_rfl)) ?_
  intro W base args ds gs before hval0 hW hcnd hsz _
  have hval : ∀ (j : Nat) t v, Try.f5.params[j]? = some t → args[j]? = some v → Value.okWide Try.prog W .any base t v := hval0
  have hW' := hW
  obtain ⟨p, q, hA0, hV, rfl, hfz, hnd⟩ := hW
  have hA : DataW.TrodAll enc Try.prog W 0 (fun _ => true) true Try.f5.params.toList args.toList ds p := hA0
  rw [Try.params5] at hA hval
  obtain ⟨v0, vs0, d0, ds0, p0, q0, hargs, rfl, rfl, h0, r0⟩ := trodAll_cons hA
  obtain ⟨v1, vs1, d1, ds1, p1, q1, rfl, rfl, rfl, h1, r1⟩ := trodAll_cons r0
  obtain ⟨rfl, rfl, rfl⟩ := trodAll_nil r1
  obtain rfl : args = #[v0, v1] := by cases args; simp_all
  obtain ⟨rfl, rfl⟩ := trodVars_none hV
  have k0 := h0
  have lt0 : ∀ x ∈ p0, x.block < W.heap.size := by obtain ⟨m, hm⟩ := k0; exact DataW.trod_lt m _ _ _ hm
  have k1 := h1
  have lt1 : ∀ x ∈ p1, x.block < W.heap.size := by obtain ⟨m, hm⟩ := k1; exact DataW.trod_lt m _ _ _ hm
  obtain ⟨N0, vn0, vo0, ve0, rfl, hI0, hO0, hE0, hN0, hL0⟩ := open_note (hval 0 26 v0 rfl rfl) h0 (fun n hn => by simpa using List.all_eq_true.1 hsz n (DataW.weights_mem_each (j := 0) (t := 26) (by kernel_rfl) rfl n hn))
  obtain ⟨l1_, S1_, B1_⟩ := open_bytes (hval 1 30 v1 rfl rfl) h1
  clear hA0 hval0
  refine (walk N0 vn0 vo0 ve0 hI0 hO0 hE0 hN0 hL0 v1 l1_ S1_ B1_).mono fun e W' ⟨he, bel⟩ => ?_
  subst he
  exact ⟨_, rfl, _, _, _, [], _, [], hW', trodAll_mk1 (shut_bool Try.underlying4 _), (trodAll_cons_mk (Below.trod laidOut (by kernel_rfl) (of_decide_eq_true (by kernel_rfl)) k0 bel lt0) (trodAll_cons_mk (Below.trod laidOut (by kernel_rfl) (of_decide_eq_true (by kernel_rfl)) k1 bel lt1) trodAll_mk0)), rfl, bel.frame _, fun h => by cases h⟩

theorem over : Rows.noteBackRow.holds Try.pinned (OpenSpec.ofChange Rows.noteBackSpec) :=
  OpenClaim.holds_of_wide 5 Try.f5 rfl rfl rfl rfl rfl rfl rfl ⟨rfl, rfl, rfl, rfl, rfl⟩ rfl rfl rfl rfl rfl (by kernel_rfl) Try.func5 (by kernel_rfl)
    (of_decide_eq_true (by kernel_rfl)) (by unfold Func.isWrapper; first | (rw [if_pos (by decide +kernel)]; kernel_rfl) | (rw [if_neg (by decide +kernel)]; exact ⟨rfl, rfl⟩))
    (fun os started H enc _ => lifted os started H enc)

theorem proved : Rows.NoteBackSaid := over
end Go.Proofs.Ytjbhicjnnghjjaa.noteBack
namespace Go.Proofs.Ytjbhicjnnghjjaa
theorem noteBack_holds : Rows.NoteBackSaid := noteBack.proved
#print axioms noteBack_holds
end Go.Proofs.Ytjbhicjnnghjjaa
