/-
  note.Same.
  estuaryref05.Same.
  A region that draws its order and whose last operation, z, writes what others read: what holds need hold only until z has come up. Nothing here names the program.
  estuarylaw05.copied.
-/
import Derived.Test.YtjbhicjnnghjjaaPk15
import Derived.Test.YtjbhicjnnghjjaaPk01
import Derived.Deep.RegionHeld3
import Derived.Test.YtjbhicjnnghjjaaPk14
import Derived.Test.YtjbhicjnnghjjaaPk13
import Derived.Deep.CutRange
namespace Go.Proofs.Ytjbhicjnnghjjaa
open Go.RowKit Go.Shelf
set_option linter.unusedVariables false

theorem biff_true {r : Ending} {P : Prop} (h : BIff r P) (hp : P) : r = .returned (.bool true) := by
  obtain ⟨z, rfl, hz⟩ := h
  rw [hz.2 hp]
theorem biff_false {r : Ending} {P : Prop} (h : BIff r P) (hp : ¬ P) : r = .returned (.bool false) := by
  obtain ⟨z, rfl, hz⟩ := h
  cases z with
  | false => rfl
  | true => exact absurd (hz.1 rfl) hp
theorem biff_no {P : Prop} (hp : ¬ P) : BIff (.returned (.bool false)) P := ⟨false, rfl, ⟨fun h => by simp at h, fun h => absurd h hp⟩⟩
theorem biff_yes {P : Prop} (hp : P) : BIff (.returned (.bool true)) P := ⟨true, rfl, ⟨fun _ => hp, fun _ => rfl⟩⟩
set_option maxHeartbeats 4000000 in
set_option maxRecDepth 100000 in
theorem nsame_any (A B : Nt) (vn vo ve un uo ue : Value) (w : World) (h1 : Is w vn A.ns) (h2 : SR 5 k64 w vo A.os) (h3 : SR 76 ek w ve A.es) (g1 : Is w un B.ns) (g2 : SR 5 k64 w uo B.os) (g3 : SR 76 ek w ue B.es) :
    Calls Try.prog 22 #[ntV A vn vo ve, ntV B un uo ue] w fun r w' => BIff r (SameN A B) ∧ Below w.heap.size w w' := by
  have hA := ab_alloc (ab_alloc (Below.refl w.heap.size w) (.cells #[.int .i64 A.k, .int .i64 A.f, .int .i64 A.t, vn, vo, ve] 26)) (.cells #[.int .i64 B.k, .int .i64 B.f, .int .i64 B.t, un, uo, ue] 26)
  have hP := (Blk.new w #[.int .i64 A.k, .int .i64 A.f, .int .i64 A.t, vn, vo, ve] 26).alloc (.cells #[.int .i64 B.k, .int .i64 B.f, .int .i64 B.t, un, uo, ue] 26)
  have hR := Blk.new (w.alloc (.cells #[.int .i64 A.k, .int .i64 A.f, .int .i64 A.t, vn, vo, ve] 26)) #[.int .i64 B.k, .int .i64 B.f, .int .i64 B.t, un, uo, ue] 26
  rw [show (w.alloc (.cells #[.int .i64 A.k, .int .i64 A.f, .int .i64 A.t, vn, vo, ve] 26)).heap.size = w.heap.size + 1 by simp] at hR
  have i1 := h1.keep hA
  have i2 := h2.keep hA
  have i3 := h3.keep hA
  have j1 := g1.keep hA
  have j2 := g2.keep hA
  have j3 := g3.keep hA
  go_enter Try.func22, Try.ntmps22
  go_upto_region 1 with fail
  clear h1 h2 h3 g1 g2 g3
  generalize (w.alloc (.cells #[.int .i64 A.k, .int .i64 A.f, .int .i64 A.t, vn, vo, ve] 26)).alloc (.cells #[.int .i64 B.k, .int .i64 B.f, .int .i64 B.t, un, uo, ue] 26) = V at *
  have DP : ∀ W, Below V.heap.size V W → Six W w.heap.size (.int .i64 A.k) (.int .i64 A.f) (.int .i64 A.t) vn vo ve := fun W hb => six (hP.keep hb)
  have DR : ∀ W, Below V.heap.size V W → Six W (w.heap.size + 1) (.int .i64 B.k) (.int .i64 B.f) (.int .i64 B.t) un uo ue := fun W hb => six (hR.keep hb)
  clear hP hR
  generalize w.heap.size + 1 = B2 at *
  obtain ⟨p0, p1, p2, p3, p4, p5, -, -, -, -, -, -⟩ := DP V (Below.refl _ _)
  obtain ⟨r0, r1, r2, r3, r4, r5, -, -, -, -, -, -⟩ := DR V (Below.refl _ _)
  by_cases hk : A.k = B.k
  · have ek' : (A.k == B.k) = true := by simpa using hk
    by_cases hf : A.f = B.f
    · have ef : (A.f == B.f) = true := by simpa using hf
      by_cases ht : A.t = B.t
      · have et : (A.t == B.t) = true := by simpa using ht
        by_cases hn : A.ns = B.ns
        · by_cases ho : EqL 5 A.os B.os
          · by_cases he : EqL 76 A.es B.es
            · have HE : Hid (BIff (.returned (.bool true)) (SameN A B)) := biff_yes ⟨hk, hf, ht, hn, ho, he⟩
              go_wp2_with (first
                | (go_at_call 43; refine (equal_ints _ _ _ _ _ i1 j1).mono ?_; rintro r W1 ⟨hz1, b1⟩; obtain rfl := biff_true hz1 hn; clear hz1; have bb1 := b1; obtain ⟨p0, p1, p2, p3, p4, p5, -, -, -, -, -, -⟩ := DP _ bb1; obtain ⟨r0, r1, r2, r3, r4, r5, -, -, -, -, -, -⟩ := DR _ bb1)
                | (go_at_call 44; refine (equal_ops _ _ _ _ _ (i2.keep bb1) (j2.keep bb1)).mono ?_; rintro r W2 ⟨hz2, b2⟩; obtain rfl := biff_true hz2 ho; clear hz2; have bb2 := ab_trans bb1 b2; obtain ⟨p0, p1, p2, p3, p4, p5, -, -, -, -, -, -⟩ := DP _ bb2; obtain ⟨r0, r1, r2, r3, r4, r5, -, -, -, -, -, -⟩ := DR _ bb2)
                | (go_at_call 45; refine (equal_ents _ _ _ _ _ (i3.keep bb2) (j3.keep bb2)).mono ?_; rintro r W3 ⟨hz3, b3⟩; obtain rfl := biff_true hz3 he; clear hz3; have bb3 := ab_trans bb2 b3; obtain ⟨p0, p1, p2, p3, p4, p5, -, -, -, -, -, -⟩ := DP _ bb3; obtain ⟨r0, r1, r2, r3, r4, r5, -, -, -, -, -, -⟩ := DR _ bb3))
              go_ret
              exact ⟨HE.out, ab_trans hA bb3⟩
            · have HE : Hid (BIff (.returned (.bool false)) (SameN A B)) := biff_no fun h => he h.es
              go_wp2_with (first
                | (go_at_call 43; refine (equal_ints _ _ _ _ _ i1 j1).mono ?_; rintro r W1 ⟨hz1, b1⟩; obtain rfl := biff_true hz1 hn; clear hz1; have bb1 := b1; obtain ⟨p0, p1, p2, p3, p4, p5, -, -, -, -, -, -⟩ := DP _ bb1; obtain ⟨r0, r1, r2, r3, r4, r5, -, -, -, -, -, -⟩ := DR _ bb1)
                | (go_at_call 44; refine (equal_ops _ _ _ _ _ (i2.keep bb1) (j2.keep bb1)).mono ?_; rintro r W2 ⟨hz2, b2⟩; obtain rfl := biff_true hz2 ho; clear hz2; have bb2 := ab_trans bb1 b2; obtain ⟨p0, p1, p2, p3, p4, p5, -, -, -, -, -, -⟩ := DP _ bb2; obtain ⟨r0, r1, r2, r3, r4, r5, -, -, -, -, -, -⟩ := DR _ bb2)
                | (go_at_call 45; refine (equal_ents _ _ _ _ _ (i3.keep bb2) (j3.keep bb2)).mono ?_; rintro r W3 ⟨hz3, b3⟩; obtain rfl := biff_false hz3 he; clear hz3; have bb3 := ab_trans bb2 b3; obtain ⟨p0, p1, p2, p3, p4, p5, -, -, -, -, -, -⟩ := DP _ bb3; obtain ⟨r0, r1, r2, r3, r4, r5, -, -, -, -, -, -⟩ := DR _ bb3))
              go_ret
              exact ⟨HE.out, ab_trans hA bb3⟩
          · have HE : Hid (BIff (.returned (.bool false)) (SameN A B)) := biff_no fun h => ho h.os
            go_wp2_with (first
              | (go_at_call 43; refine (equal_ints _ _ _ _ _ i1 j1).mono ?_; rintro r W1 ⟨hz1, b1⟩; obtain rfl := biff_true hz1 hn; clear hz1; have bb1 := b1; obtain ⟨p0, p1, p2, p3, p4, p5, -, -, -, -, -, -⟩ := DP _ bb1; obtain ⟨r0, r1, r2, r3, r4, r5, -, -, -, -, -, -⟩ := DR _ bb1)
              | (go_at_call 44; refine (equal_ops _ _ _ _ _ (i2.keep bb1) (j2.keep bb1)).mono ?_; rintro r W2 ⟨hz2, b2⟩; obtain rfl := biff_false hz2 ho; clear hz2; have bb2 := ab_trans bb1 b2; obtain ⟨p0, p1, p2, p3, p4, p5, -, -, -, -, -, -⟩ := DP _ bb2; obtain ⟨r0, r1, r2, r3, r4, r5, -, -, -, -, -, -⟩ := DR _ bb2))
            go_ret
            exact ⟨HE.out, ab_trans hA bb2⟩
        · have HE : Hid (BIff (.returned (.bool false)) (SameN A B)) := biff_no fun h => hn h.ns
          go_wp2_with (go_at_call 43; refine (equal_ints _ _ _ _ _ i1 j1).mono ?_; rintro r W1 ⟨hz1, b1⟩; obtain rfl := biff_false hz1 hn; clear hz1; have bb1 := b1; obtain ⟨p0, p1, p2, p3, p4, p5, -, -, -, -, -, -⟩ := DP _ bb1; obtain ⟨r0, r1, r2, r3, r4, r5, -, -, -, -, -, -⟩ := DR _ bb1)
          go_ret
          exact ⟨HE.out, ab_trans hA bb1⟩
      · have HE : Hid (BIff (.returned (.bool false)) (SameN A B)) := biff_no fun h => ht h.t
        have et : (A.t == B.t) = false := by simpa using ht
        go_wp2_with fail
        go_ret
        exact ⟨HE.out, hA⟩
    · have HE : Hid (BIff (.returned (.bool false)) (SameN A B)) := biff_no fun h => hf h.f
      have ef : (A.f == B.f) = false := by simpa using hf
      go_wp2_with fail
      go_ret
      exact ⟨HE.out, hA⟩
  · have HE : Hid (BIff (.returned (.bool false)) (SameN A B)) := biff_no fun h => hk h.k
    have ek' : (A.k == B.k) = false := by simpa using hk
    go_wp2_with fail
    go_ret
    exact ⟨HE.out, hA⟩
end Go.Proofs.Ytjbhicjnnghjjaa
namespace Go.Proofs.Ytjbhicjnnghjjaa
open Go.RowKit Go.Shelf
set_option linter.unusedVariables false

set_option maxHeartbeats 8000000 in
set_option maxRecDepth 100000 in
theorem rsame_any (A B : Nt) (vn vo ve un uo ue : Value) (w : World) (h1 : Is w vn A.ns) (h2 : SR 5 k64 w vo A.os) (h3 : SR 76 ek w ve A.es) (g1 : Is w un B.ns) (g2 : SR 5 k64 w uo B.os) (g3 : SR 76 ek w ue B.es) :
    Calls Try.prog 17 #[ntV A vn vo ve, ntV B un uo ue] w fun r w' => BIff r (SameN A B) ∧ Below w.heap.size w w' := by
  obtain ⟨q1, c1, a1, o1, rfl, hc1, hm1, hp1, hg1, hr1⟩ := h1
  obtain ⟨q2, c2, a2, o2, rfl, hc2, hm2, hp2, hg2, hr2⟩ := h2
  obtain ⟨q3, c3, a3, o3, rfl, hc3, hm3, hp3, hg3, hr3⟩ := h3
  obtain ⟨q4, c4, a4, o4, rfl, hc4, hm4, hp4, hg4, hr4⟩ := g1
  obtain ⟨q5, c5, a5, o5, rfl, hc5, hm5, hp5, hg5, hr5⟩ := g2
  obtain ⟨q6, c6, a6, o6, rfl, hc6, hm6, hp6, hg6, hr6⟩ := g3
  obtain ⟨k, f, t, ns, os, es⟩ := A
  obtain ⟨k', f', t', ns', os', es'⟩ := B
  dsimp only at *
  generalize hn1 : ns.length = n1 at *
  generalize hn2 : os.length = n2 at *
  generalize hn3 : es.length = n3 at *
  generalize hn4 : ns'.length = n4 at *
  generalize hn5 : os'.length = n5 at *
  generalize hn6 : es'.length = n6 at *
  go_enter Try.func17, Try.ntmps17
  go_upto_region 1 with fail
  have hA := ab_alloc (ab_alloc (Below.refl w.heap.size w) (.cells #[.int .i64 k, .int .i64 f, .int .i64 t, .slice q1 n1 c1, .slice q2 n2 c2, .slice q3 n3 c3] 26)) (.cells #[.int .i64 k', .int .i64 f', .int .i64 t', .slice q4 n4 c4, .slice q5 n5 c5, .slice q6 n6 c6] 26)
  have hP := (Blk.new w #[.int .i64 k, .int .i64 f, .int .i64 t, .slice q1 n1 c1, .slice q2 n2 c2, .slice q3 n3 c3] 26).alloc (.cells #[.int .i64 k', .int .i64 f', .int .i64 t', .slice q4 n4 c4, .slice q5 n5 c5, .slice q6 n6 c6] 26)
  have hR := Blk.new (w.alloc (.cells #[.int .i64 k, .int .i64 f, .int .i64 t, .slice q1 n1 c1, .slice q2 n2 c2, .slice q3 n3 c3] 26)) #[.int .i64 k', .int .i64 f', .int .i64 t', .slice q4 n4 c4, .slice q5 n5 c5, .slice q6 n6 c6] 26
  rw [show (w.alloc (.cells #[.int .i64 k, .int .i64 f, .int .i64 t, .slice q1 n1 c1, .slice q2 n2 c2, .slice q3 n3 c3] 26)).heap.size = w.heap.size + 1 by simp] at hR
  generalize (w.alloc (.cells #[.int .i64 k, .int .i64 f, .int .i64 t, .slice q1 n1 c1, .slice q2 n2 c2, .slice q3 n3 c3] 26)).alloc (.cells #[.int .i64 k', .int .i64 f', .int .i64 t', .slice q4 n4 c4, .slice q5 n5 c5, .slice q6 n6 c6] 26) = V at *
  have DP : ∀ W, Below V.heap.size V W → Six W w.heap.size (.int .i64 k) (.int .i64 f) (.int .i64 t) (.slice q1 n1 c1) (.slice q2 n2 c2) (.slice q3 n3 c3) := fun W hb => six (hP.keep hb)
  have DR : ∀ W, Below V.heap.size V W → Six W (w.heap.size + 1) (.int .i64 k') (.int .i64 f') (.int .i64 t') (.slice q4 n4 c4) (.slice q5 n5 c5) (.slice q6 n6 c6) := fun W hb => six (hR.keep hb)
  clear hP hR
  generalize w.heap.size + 1 = B2 at *
  obtain ⟨p0, p1, p2, p3, p4, p5, -, -, -, -, -, -⟩ := DP V (Below.refl _ _)
  obtain ⟨r0, r1, r2, r3, r4, r5, -, -, -, -, -, -⟩ := DR V (Below.refl _ _)
  have HNo : Hid (¬ (k = k' ∧ f = f' ∧ t = t' ∧ n1 = n4 ∧ n2 = n5 ∧ n3 = n6) → BIff (.returned (.bool false)) (SameN ⟨k, f, t, ns, os, es⟩ ⟨k', f', t', ns', os', es'⟩)) := fun h => biff_no fun s => h ⟨s.k, s.f, s.t, by rw [← hn1, ← hn4]; exact congrArg List.length s.ns, by rw [← hn2, ← hn5]; exact s.os.1, by rw [← hn3, ← hn6]; exact s.es.1⟩
  have HNn : Hid (¬ ns = ns' → BIff (.returned (.bool false)) (SameN ⟨k, f, t, ns, os, es⟩ ⟨k', f', t', ns', os', es'⟩)) := fun h => biff_no fun s => h s.ns
  have HNo2 : Hid (¬ EqL 5 os os' → BIff (.returned (.bool false)) (SameN ⟨k, f, t, ns, os, es⟩ ⟨k', f', t', ns', os', es'⟩)) := fun h => biff_no fun s => h s.os
  have HNe : Hid (¬ EqL 76 es es' → BIff (.returned (.bool false)) (SameN ⟨k, f, t, ns, os, es⟩ ⟨k', f', t', ns', os', es'⟩)) := fun h => biff_no fun s => h s.es
  by_cases d0 : k = k'
  case neg =>
    have e0 : (k != k') = true := by simpa using d0
    have HE := HNo.out (fun h => d0 h.1)
    go_wp2_with fail
    go_ret
    exact ⟨HE, hA⟩
  have e0 : (k != k') = false := by simpa using d0
  by_cases d1 : f = f'
  case neg =>
    have e1 : (f != f') = true := by simpa using d1
    have HE := HNo.out (fun h => d1 h.2.1)
    go_wp2_with fail
    go_ret
    exact ⟨HE, hA⟩
  have e1 : (f != f') = false := by simpa using d1
  by_cases d2 : t = t'
  case neg =>
    have e2 : (t != t') = true := by simpa using d2
    have HE := HNo.out (fun h => d2 h.2.2.1)
    go_wp2_with fail
    go_ret
    exact ⟨HE, hA⟩
  have e2 : (t != t') = false := by simpa using d2
  by_cases d3 : n1 = n4
  case neg =>
    have e3 : ((n1 : Int) != (n4 : Int)) = true := by simp; omega
    have HE := HNo.out (fun h => d3 h.2.2.2.1)
    go_wp2_with fail
    go_ret
    exact ⟨HE, hA⟩
  have e3 : ((n1 : Int) != (n4 : Int)) = false := by simp; omega
  by_cases d4 : n2 = n5
  case neg =>
    have e4 : ((n2 : Int) != (n5 : Int)) = true := by simp; omega
    have HE := HNo.out (fun h => d4 h.2.2.2.2.1)
    go_wp2_with fail
    go_ret
    exact ⟨HE, hA⟩
  have e4 : ((n2 : Int) != (n5 : Int)) = false := by simp; omega
  by_cases d5 : n3 = n6
  case neg =>
    have e5 : ((n3 : Int) != (n6 : Int)) = true := by simp; omega
    have HE := HNo.out (fun h => d5 h.2.2.2.2.2)
    go_wp2_with fail
    go_ret
    exact ⟨HE, hA⟩
  have e5 : ((n3 : Int) != (n6 : Int)) = false := by simp; omega
  subst d0; subst d1; subst d2; subst d3; subst d4; subst d5
  have DPl : ∀ W, Below V.heap.size V W → w.heap.size < W.heap.size ∧ B2 < W.heap.size := fun W hb => ⟨World.block_lt_of_cell? W _ (DP W hb).c0, World.block_lt_of_cell? W _ (DR W hb).c0⟩
  go_upto_region 3 with fail
  go_wp2_with fail
  go_loopw [5] (fun i wr => ∃ j : Nat, j ≤ n1 ∧ i = .int .i64 (j : Int) ∧ ns.take j = ns'.take j ∧ Below V.heap.size V wr) (fun i _ => n1 - (intOf i).toNat)
  case atStart => exact ⟨0, by omega, rfl, by simp, Below.refl _ _⟩
  case round =>
    obtain ⟨j, hj, rfl, ht, hb⟩ := hrel
    have HT : Hid (ns.take j = ns'.take j) := ht
    clear ht p0 p1 p2 p3 p4 p5 r0 r1 r2 r3 r4 r5
    obtain ⟨p0, p1, p2, p3, p4, p5, -, -, -, -, -, -⟩ := DP wr hb
    obtain ⟨r0, r1, r2, r3, r4, r5, -, -, -, -, -, -⟩ := DR wr hb
    have hbw := ab_trans hA hb
    by_cases c : j = n1
    · subst c
      have HEN : Hid (ns = ns') := by have := HT.out; rwa [List.take_of_length_le (by omega), List.take_of_length_le (by omega)] at this
      clear HT
      have HB0 := hb
      go_wp2_with fail
      go_loopw [6] (fun i wr => ∃ j : Nat, j ≤ n2 ∧ i = .int .i64 (j : Int) ∧ EqL 5 (os.take j) (os'.take j) ∧ Below V.heap.size V wr) (fun i _ => n2 - (intOf i).toNat)
      case atStart => exact ⟨0, by omega, rfl, by simpa using EqL.refl _ _, HB0⟩
      case round =>
        obtain ⟨j, hj, rfl, ht, hb⟩ := hrel
        have HT : Hid (EqL 5 (os.take j) (os'.take j)) := ht
        clear ht
        obtain ⟨p0, p1, p2, p3, p4, p5, -, -, -, -, -, -⟩ := DP wr hb
        obtain ⟨r0, r1, r2, r3, r4, r5, -, -, -, -, -, -⟩ := DR wr hb
        have hbw := ab_trans hA hb
        by_cases c : j = n2
        · subst c
          have HEQ : Hid (EqL 5 os os') := by have := HT.out; rwa [List.take_of_length_le (by omega), List.take_of_length_le (by omega)] at this
          have HEO := HEQ
          clear HEQ HT
          have HB0 := hb
          go_wp2_with fail
          go_loopw [7] (fun i wr => ∃ j : Nat, j ≤ n3 ∧ i = .int .i64 (j : Int) ∧ EqL 76 (es.take j) (es'.take j) ∧ Below V.heap.size V wr) (fun i _ => n3 - (intOf i).toNat)
          case atStart => exact ⟨0, by omega, rfl, by simpa using EqL.refl _ _, HB0⟩
          case round =>
            obtain ⟨j, hj, rfl, ht, hb⟩ := hrel
            have HT : Hid (EqL 76 (es.take j) (es'.take j)) := ht
            clear ht
            obtain ⟨p0, p1, p2, p3, p4, p5, -, -, -, -, -, -⟩ := DP wr hb
            obtain ⟨r0, r1, r2, r3, r4, r5, -, -, -, -, -, -⟩ := DR wr hb
            have hbw := ab_trans hA hb
            by_cases c : j = n3
            · subst c
              have HEQ : Hid (EqL 76 es es') := by have := HT.out; rwa [List.take_of_length_le (by omega), List.take_of_length_le (by omega)] at this
              have HY : Hid (BIff (.returned (.bool true)) (SameN ⟨k, f, t, ns, os, es⟩ ⟨k, f, t, ns', os', es'⟩)) := biff_yes ⟨rfl, rfl, rfl, HEN.out, HEO.out, HEQ.out⟩
              go_wp2_with fail
              go_ret
              exact ⟨HY.out, hbw⟩
            · obtain ⟨x, hx⟩ : ∃ x, es[j]? = some x := ⟨es[j], List.getElem?_eq_getElem (by omega)⟩
              obtain ⟨y, hy⟩ : ∃ y, es'[j]? = some y := ⟨es'[j], List.getElem?_eq_getElem (by omega)⟩
              obtain rfl := hp3 (by omega)
              obtain rfl := hp6 (by omega)
              have gw1 : a3 < w.heap.size := hg3 (by omega)
              have gw2 : a6 < w.heap.size := hg6 (by omega)
              have R1 : Hid (∀ w', Below wr.heap.size wr w' → w'.rangeAt a3 (o3 + j * 76) (AG 76 ek x).toList) := fun w' hb' => range_keep (hr3 j x hx) gw1 (ab_trans hbw hb')
              have R2 : Hid (∀ w', Below wr.heap.size wr w' → w'.rangeAt a6 (o6 + j * 76) (AG 76 ek y).toList) := fun w' hb' => range_keep (hr6 j y hy) gw2 (ab_trans hbw hb')
              have hki : (j : Int) < (n3 : Int) := by omega
              have hkn : j < n3 := by omega
              have HN : Hid ((∀ i, i < 76 → x i = y i) → EqL 76 (es.take (j + 1)) (es'.take (j + 1))) := fun e => eqL_next HT.out hx hy e
              have HE : Hid ((¬ ∀ i, i < 76 → x i = y i) → BIff (.returned (.bool false)) (SameN ⟨k, f, t, ns, os, es⟩ ⟨k, f, t, ns', os', es'⟩)) := fun e => HNe.out (fun h => absurd (h.2 j x y hx hy) e)
              clear hr3 hr6 hp3 hp6 hg3 hg6 hx hy gw1 gw2
              go_upto_region 16 with fail
              have ca := cls_cell p5 (DPl wr hb).1
              have cb := cls_cell r5 (DPl wr hb).2
              refine wp_region_below (by kernel_rfl) (by kernel_rfl) ?_
              have HZ := cls_some wr
              go_big_quiet_step (fail)
              go_big_quiet_step (fail)
              go_big_quiet_step (fail)
              go_big_quiet_step (fail)
              refine quiet_val rfl _ (fun w' hw' => by obtain ⟨z, hz⟩ := hw'; exact ld_ents rfl rfl (hz ▸ R1.out _ z.prop)) ?_
              simp only [Act.put, List.setIfInBounds_toArray, List.set_cons_succ, List.set_cons_zero]
              go_big_quiet_step (fail)
              go_big_quiet_step (fail)
              go_big_quiet_step (fail)
              go_big_quiet_step (fail)
              refine quiet_val rfl _ (fun w' hw' => by obtain ⟨z, hz⟩ := hw'; exact ld_ents rfl rfl (hz ▸ R2.out _ z.prop)) ?_
              simp only [Act.put, List.setIfInBounds_toArray, List.set_cons_succ, List.set_cons_zero]
              refine quiet_val rfl _ (fun w' _ => neqo_ents rfl rfl rfl w') ?_
              simp only [Act.put, List.setIfInBounds_toArray, List.set_cons_succ, List.set_cons_zero]
              refine wpQuiet_nil ?_
              rintro w7 ⟨⟨W7, b7⟩, e7⟩
              dsimp only at e7
              subst e7
              have hb7 := ab_trans hb b7
              clear ca cb HZ
              cases he : eqA 76 x y with
              | true =>
                have HN2 : Hid (EqL 76 (es.take (j + 1)) (es'.take (j + 1))) := HN.out ((eqA_iff _ _ _).1 he)
                clear HN HE
                go_wp2_with fail
                exact ⟨⟨j + 1, by omega, rfl, HN2.out, hb7⟩, by simp only [intOf]; omega⟩
              | false =>
                have HE2 : Hid (BIff (.returned (.bool false)) (SameN ⟨k, f, t, ns, os, es⟩ ⟨k, f, t, ns', os', es'⟩)) := HE.out (fun h => by rw [(eqA_iff _ _ _).2 h] at he; cases he)
                clear HN HE
                go_wp2_with fail
                go_ret
                exact ⟨HE2.out, ab_trans hA hb7⟩
        · obtain ⟨x, hx⟩ : ∃ x, os[j]? = some x := ⟨os[j], List.getElem?_eq_getElem (by omega)⟩
          obtain ⟨y, hy⟩ : ∃ y, os'[j]? = some y := ⟨os'[j], List.getElem?_eq_getElem (by omega)⟩
          obtain rfl := hp2 (by omega)
          obtain rfl := hp5 (by omega)
          have gw1 : a2 < w.heap.size := hg2 (by omega)
          have gw2 : a5 < w.heap.size := hg5 (by omega)
          have R1 : Hid (∀ w', Below wr.heap.size wr w' → w'.rangeAt a2 (o2 + j * 5) (AG 5 k64 x).toList) := fun w' hb' => range_keep (hr2 j x hx) gw1 (ab_trans hbw hb')
          have R2 : Hid (∀ w', Below wr.heap.size wr w' → w'.rangeAt a5 (o5 + j * 5) (AG 5 k64 y).toList) := fun w' hb' => range_keep (hr5 j y hy) gw2 (ab_trans hbw hb')
          have hki : (j : Int) < (n2 : Int) := by omega
          have hkn : j < n2 := by omega
          have HN : Hid ((∀ i, i < 5 → x i = y i) → EqL 5 (os.take (j + 1)) (os'.take (j + 1))) := fun e => eqL_next HT.out hx hy e
          have HE : Hid ((¬ ∀ i, i < 5 → x i = y i) → BIff (.returned (.bool false)) (SameN ⟨k, f, t, ns, os, es⟩ ⟨k, f, t, ns', os', es'⟩)) := fun e => HNo2.out (fun h => absurd (h.2 j x y hx hy) e)
          clear hr2 hr5 hp2 hp5 hg2 hg5 hx hy gw1 gw2
          go_upto_region 11 with fail
          have ca := cls_cell p4 (DPl wr hb).1
          have cb := cls_cell r4 (DPl wr hb).2
          refine wp_region_below (by kernel_rfl) (by kernel_rfl) ?_
          have HZ := cls_some wr
          go_big_quiet_step (fail)
          go_big_quiet_step (fail)
          go_big_quiet_step (fail)
          go_big_quiet_step (fail)
          refine quiet_val rfl _ (fun w' hw' => by obtain ⟨z, hz⟩ := hw'; exact ld_ops rfl rfl (hz ▸ R1.out _ z.prop)) ?_
          simp only [Act.put, List.setIfInBounds_toArray, List.set_cons_succ, List.set_cons_zero]
          go_big_quiet_step (fail)
          go_big_quiet_step (fail)
          go_big_quiet_step (fail)
          go_big_quiet_step (fail)
          refine quiet_val rfl _ (fun w' hw' => by obtain ⟨z, hz⟩ := hw'; exact ld_ops rfl rfl (hz ▸ R2.out _ z.prop)) ?_
          simp only [Act.put, List.setIfInBounds_toArray, List.set_cons_succ, List.set_cons_zero]
          refine quiet_val rfl _ (fun w' _ => neqo_ops rfl rfl rfl w') ?_
          simp only [Act.put, List.setIfInBounds_toArray, List.set_cons_succ, List.set_cons_zero]
          refine wpQuiet_nil ?_
          rintro w7 ⟨⟨W7, b7⟩, e7⟩
          dsimp only at e7
          subst e7
          have hb7 := ab_trans hb b7
          clear ca cb HZ
          cases he : eqA 5 x y with
          | true =>
            have HN2 : Hid (EqL 5 (os.take (j + 1)) (os'.take (j + 1))) := HN.out ((eqA_iff _ _ _).1 he)
            clear HN HE
            go_wp2_with fail
            exact ⟨⟨j + 1, by omega, rfl, HN2.out, hb7⟩, by simp only [intOf]; omega⟩
          | false =>
            have HE2 : Hid (BIff (.returned (.bool false)) (SameN ⟨k, f, t, ns, os, es⟩ ⟨k, f, t, ns', os', es'⟩)) := HE.out (fun h => by rw [(eqA_iff _ _ _).2 h] at he; cases he)
            clear HN HE
            go_wp2_with fail
            go_ret
            exact ⟨HE2.out, ab_trans hA hb7⟩
    · obtain ⟨x, hx⟩ : ∃ x, ns[j]? = some x := ⟨ns[j], List.getElem?_eq_getElem (by omega)⟩
      obtain ⟨y, hy⟩ : ∃ y, ns'[j]? = some y := ⟨ns'[j], List.getElem?_eq_getElem (by omega)⟩
      obtain rfl := hp1 (by omega)
      obtain rfl := hp4 (by omega)
      have d1 := (hbw.cell (p := ⟨a1, o1 + j, none⟩) (hg1 (by omega))).trans (hr1 j x hx)
      have d2 := (hbw.cell (p := ⟨a4, o4 + j, none⟩) (hg4 (by omega))).trans (hr4 j y hy)
      have hki : (j : Int) < (n1 : Int) := by omega
      have hkn : j < n1 := by omega
      by_cases e : x = y
      · have HN : Hid (ns.take (j + 1) = ns'.take (j + 1)) := take_eq_next HT.out hx hy e
        have e1 : (x != y) = false := by simp [e]
        clear hr1 hr2 hr3 hr4 hr5 hr6 hx hy e DP DR DPl
        go_upto_region 6 with fail
        go_quiet (fail)
        go_wp2_with fail
        exact ⟨⟨j + 1, by omega, rfl, HN.out, ab_drewN hb _⟩, by simp only [intOf]; omega⟩
      · have HE : Hid (BIff (.returned (.bool false)) (SameN ⟨k, f, t, ns, os, es⟩ ⟨k, f, t, ns', os', es'⟩)) := HNn.out (fun h => by rw [h, hy] at hx; cases hx; exact absurd rfl e)
        have e1 : (x != y) = true := by simp [e]
        clear hr1 hr2 hr3 hr4 hr5 hr6 hx hy e DP DR DPl
        go_upto_region 6 with fail
        go_quiet (fail)
        go_wp2_with fail
        go_ret
        exact ⟨HE.out, ab_drewN hbw _⟩
end Go.Proofs.Ytjbhicjnnghjjaa
namespace Go.Proofs.Ytjbhicjnnghjjaa
set_option linter.unusedVariables false

section
variable {P : Program} {ops : Array Oper} {Q : Exit → Act → World → Prop} {md : Region.Mode} {S : World → Prop} {z : Nat}
/-- Operation k waits for i. -/
def waits (md : Region.Mode) (ops : Array Oper) (k i : Nat) : Bool := match ops[k]? with
  | some o => o.after.any fun e => Region.binds md e && e.on == i
  | none => false
/-- A chain of operations that have not come up, each of which waits for the one ahead of it, the first for i. -/
def chainB (md : Region.Mode) (ops : Array Oper) (l : Array Bool) : Nat → List Nat → Bool
  | _, [] => true
  | i, k :: r => waits md ops k i && (!(l.getD k true)) && chainB md ops l k r
theorem chain_away {l : Array Bool} {j : Nat} (hj : j ∈ Region.ready md ops l) : ∀ (c : List Nat) (i : Nat), l.getD i true = false → chainB md ops l i c = true → j ∉ c
  | [], _, _, _ => by simp
  | k :: r, i, hi, h => by
    simp only [chainB, Bool.and_eq_true, Bool.not_eq_true'] at h
    obtain ⟨⟨hw, hk⟩, hr⟩ := h
    intro hm
    rcases List.mem_cons.1 hm with rfl | hm
    · obtain ⟨_, oj, hoj, hall⟩ := mem_ready.1 hj
      unfold waits at hw
      rw [hoj] at hw
      simp only [Array.any_eq_true', Bool.and_eq_true, beq_iff_eq] at hw
      obtain ⟨e, he, hb, hon⟩ := hw
      have x1 := hall e he hb
      rw [hon] at x1
      rcases Nat.lt_or_ge i l.size with h' | h'
      · simp [h'] at hi x1; rw [hi] at x1; cases x1
      · simp [Array.getElem?_eq_none h'] at x1
    · exact chain_away hj r k hk hr hm
theorem chain_set {l : Array Bool} {j : Nat} : ∀ (c : List Nat) (i : Nat), j ∉ c → chainB md ops l i c = true → chainB md ops (l.setIfInBounds j true) i c = true
  | [], _, _, _ => rfl
  | k :: r, i, hj, h => by
    simp only [chainB, Bool.and_eq_true, Bool.not_eq_true'] at h ⊢
    obtain ⟨⟨hw, hk⟩, hr⟩ := h
    simp only [List.mem_cons, not_or] at hj
    exact ⟨⟨hw, by rw [getD_set_ne true hj.1]; exact hk⟩, chain_set r k hj.2 hr⟩
theorem chain_un {l : Array Bool} : ∀ (c : List Nat) (i : Nat), chainB md ops l i c = true → ∀ k ∈ c, l.getD k true = false
  | [], _, _, _, hk => by simp at hk
  | k :: r, i, h, m, hm => by
    simp only [chainB, Bool.and_eq_true, Bool.not_eq_true'] at h
    rcases List.mem_cons.1 hm with rfl | hm
    · exact h.1.2
    · exact chain_un r k h.2 m hm
/-- In any order from here on; S holds behind each operation while z has not come up. -/
def anyL (P : Program) (md : Region.Mode) (ops : Array Oper) (Q : Exit → Act → World → Prop) (S : World → Prop) (z : Nat) : Nat → Array Bool → Act → World → Prop
  | 0, l, a, w => Region.ready md ops l = [] ∧ Q .normal a w
  | n + 1, l, a, w => (Region.ready md ops l = [] → Q .normal a w) ∧
    ∀ i ∈ Region.ready md ops l, wpOp P ops Q i (fun a' w' => ((l.setIfInBounds i true).getD z true = false → S w') ∧ anyL P md ops Q S z n (l.setIfInBounds i true) a' w') a w
theorem anyL_any : ∀ (n : Nat) (l : Array Bool) (a : Act) (w : World), anyL P md ops Q S z n l a w → wpAny P md ops Q n l a w
  | 0, _, _, _, h => h
  | n + 1, _, _, _, h => ⟨h.1, fun i hi => wpOp_mono (fun a' w' h' => anyL_any n _ a' w' h'.2) (h.2 i hi)⟩
theorem region_L (z : Nat) {id : Nat} {a : Act} {w : World} (hm : P.follows .mixedOrders = true) (hS : S w.drew)
    (h : S w.drew → anyL P .any ops Q S z ops.size (Array.replicate ops.size false) a w.drew) : (Code.region id ops true).wp P Q a w :=
  wp_region_any hm (anyL_any _ _ _ _ (h hS))
theorem anyL_done {n : Nat} {l : Array Bool} {a : Act} {w : World} (hr : Region.ready md ops l = []) (h : Q .normal a w) : anyL P md ops Q S z n l a w := by
  cases n with
  | zero => exact ⟨hr, h⟩
  | succ n => exact ⟨fun _ => h, fun i hi => by rw [hr] at hi; cases hi⟩
theorem anyL_first {i : Nat} {oi : Oper} {v : Value} (c : List Nat) (hz : z ∈ c) (hi : ops[i]? = some oi) (hsel : ∀ (j : Nat) (o : Oper) cs b, ops[j]? = some o → o.op ≠ .select cs b)
    (hQ : ∀ c a w, Q (.panic c) (a.put oi.dst v) w → Q (.panic c) a w) : ∀ (n : Nat) (l : Array Bool) (a : Act) (w : World), chainB md ops l i c = true →
      (∀ j oj, ops[j]? = some oj → j ≠ i → l.getD j true = false → (∀ e ∈ oj.after, Region.binds md e = true → e.on ≠ i) → oi.apart ops oj = true) →
      i ∈ Region.ready md ops l → YieldsIf P ops S oi v a → S w → anyL P md ops Q S z n (l.setIfInBounds i true) (a.put oi.dst v) w → anyL P md ops Q S z (n + 1) l a w
  | 0, l, a, w, _, _, hr, hy, hS, H => by
    refine ⟨fun h => (by rw [h] at hr; cases hr), fun j hj => ?_⟩
    by_cases hji : j = i
    · subst hji; exact hy.wpOp hi hS ⟨fun _ => hS, H⟩
    · have hm := ready_mono hj hji
      rw [H.1] at hm
      cases hm
  | n + 1, l, a, w, hc, hfree, hr, hy, hS, H => by
    refine ⟨fun h => (by rw [h] at hr; cases hr), fun j hj => ?_⟩
    by_cases hji : j = i
    · subst hji; exact hy.wpOp hi hS ⟨fun _ => hS, H⟩
    · have h1 := H.2 j (ready_mono hj hji)
      obtain ⟨hun, oj, hoj, hall⟩ := mem_ready.1 hj
      have hiu := (mem_ready.1 hr).1
      have hjc := chain_away hj c i hiu hc
      have hc' := chain_set c i hjc hc
      have hno : ∀ e ∈ oj.after, Region.binds md e = true → e.on ≠ i := fun e he hb heq => by
        have x1 := hall e he hb
        rw [heq] at x1
        rcases Nat.lt_or_ge i l.size with h' | h'
        · simp [h'] at hiu x1; rw [hiu] at x1; cases x1
        · simp [Array.getElem?_eq_none h'] at x1
      have h2 := wpOp_putIf hoj (hfree j oj hoj hji hun hno) (fun cs b => hsel i oi cs b hi) (fun cs b => hsel j oj cs b hoj) hQ hy h1
      have hfree' : ∀ k ok, ops[k]? = some ok → k ≠ i → (l.setIfInBounds j true).getD k true = false → (∀ e ∈ ok.after, Region.binds md e = true → e.on ≠ i) → oi.apart ops ok = true := fun k ok hk hki hu hn => by
        refine hfree k ok hk hki ?_ hn
        by_cases hjk : j = k
        · subst hjk; exact hun
        · rw [getD_set_ne true hjk] at hu; exact hu
      have hzi : z ≠ i := fun e => by
        subst e
        exact chain_away hr c z hiu hc hz
      refine wpOp_mono (fun a' w' h3 => ?_) h2
      obtain ⟨y3, s3, k3⟩ := h3
      have s4 : S w' := s3 (by rw [Array.setIfInBounds_comm _ _ (Ne.symm hji), getD_set_ne true (Ne.symm hzi)]; exact chain_un c i hc' z hz)
      refine ⟨fun _ => s4, anyL_first c hz hi hsel hQ n _ a' w' hc' hfree' (ready_mono hr (Ne.symm hji)) y3 s4 ?_⟩
      rw [Array.setIfInBounds_comm _ _ hji]
      exact k3
/-- An operation that yields is taken first; where its value goes is said; c: the chain from it to z. -/
theorem takeL {i : Nat} {oi : Oper} {v : Value} {n : Nat} {l : Array Bool} {a : Act} {w : World} (c : List Nat) (d : Option Tmp) (hz : c.contains z = true) (hi : ops[i]? = some oi) (hd : oi.dst = d)
    (hc : chainB md ops l i c = true) (hs : Region.noSelect ops = true) (hf : Region.free md ops l i = true) (hr : (Region.ready md ops l).contains i = true)
    (hQ : ∀ c a w, Q (.panic c) (a.put d v) w → Q (.panic c) a w) (hw : Region.wanted oi (yielded ops a.tmps) = true) (hy : ∀ w, S w → (execOp a.eval oi).run P w = .ok (.value v) w) (hS : S w)
    (h : anyL P md ops Q S z n (l.setIfInBounds i true) (a.put d v) w) : anyL P md ops Q S z (n + 1) l a w := by
  subst hd
  exact anyL_first c (by simpa using hz) hi (Region.noSelect_spec hs) hQ n l a w hc (Region.free_spec hi hf) (by simpa using hr) (Or.inl ⟨hw, hy⟩) hS h
/-- Each of the operations rs comes up next. -/
def AllL (P : Program) (md : Region.Mode) (ops : Array Oper) (Q : Exit → Act → World → Prop) (S : World → Prop) (z : Nat) (n : Nat) (l : Array Bool) (a : Act) (w : World) (rs : List Nat) : Prop :=
  ∀ i ∈ rs, wpOp P ops Q i (fun a' w' => ((l.setIfInBounds i true).getD z true = false → S w') ∧ anyL P md ops Q S z n (l.setIfInBounds i true) a' w') a w
theorem AllL.nil {n : Nat} {l : Array Bool} {a : Act} {w : World} : AllL P md ops Q S z n l a w [] := fun _ h => by cases h
theorem AllL.cons {n : Nat} {l : Array Bool} {a : Act} {w : World} {i : Nat} {o : Oper} {rs : List Nat} (ho : ops[i]? = some o)
    (h : ∀ K : Act → World → Prop, Shut (∀ a w, S w → (S w → anyL P md ops Q S z n (l.setIfInBounds i true) a w) → K a w) → if Region.wanted o (yielded ops a.tmps) = true then Oper.wp P o a w K Q else K (a.put o.dst undef) w)
    (hs : AllL P md ops Q S z n l a w rs) : AllL P md ops Q S z n l a w (i :: rs) := fun j hj => by
  rcases List.mem_cons.1 hj with rfl | hj
  · exact wpOp_step ho (fun K hK => h K (fun a w hS hW => hK a w ⟨fun _ => hS, hW hS⟩))
  · exact hs j hj
/-- z itself. -/
theorem AllL.last {n : Nat} {l : Array Bool} {a : Act} {w : World} {o : Oper} (ho : ops[z]? = some o) (hl : (l.setIfInBounds z true).getD z true = true)
    (h : ∀ K : Act → World → Prop, Shut (∀ a w, anyL P md ops Q S z n (l.setIfInBounds z true) a w → K a w) → if Region.wanted o (yielded ops a.tmps) = true then Oper.wp P o a w K Q else K (a.put o.dst undef) w) : AllL P md ops Q S z n l a w [z] := fun j hj => by
  have : j = z := by simpa using hj
  subst this
  exact wpOp_step ho (fun K hK => h K (fun a w hW => hK a w ⟨fun h0 => (by rw [hl] at h0; cases h0), hW⟩))
theorem anyL_ready {rs : List Nat} {n : Nat} {l : Array Bool} {a : Act} {w : World} (hr : Region.ready md ops l = rs) (hne : rs ≠ []) (h : AllL P md ops Q S z n l a w rs) : anyL P md ops Q S z (n + 1) l a w :=
  ⟨fun h0 => absurd (hr ▸ h0) hne, hr ▸ h⟩
end
end Go.Proofs.Ytjbhicjnnghjjaa
namespace Go.Proofs.Ytjbhicjnnghjjaa
open Go.RowKit Go.Shelf
set_option linter.unusedVariables false

section
variable {ops : Array Oper} {rest : List Oper} {o : Oper} {a : Act} {w : World} {Q : Exit → Act → World → Prop}
theorem appiW {K : Act → World → Prop} (A : World) (d : Option Tmp) (hd : o.dst = d) {s x : Operand} (ho : o.op = .call { callee := .builtin .append, args := #[s, x], argTypes := #[22, 22] })
    {v vx : Value} {n k : Nat} {l m : List Int} (hs : a.eval s = v) (hown : w.ownsRow A.heap.size 3 1 v n (ints l)) (hx : a.eval x = vx) (hsl : Is w vx m) (hm : m.length = k) (h63 : (n + k) * 8 ≤ 140737488355328) (hA : Below A.heap.size A w)
    (h : ∀ v' w', w'.ownsRow A.heap.size 3 1 v' (n + k) (ints (l ++ m)) → (v' = .slice none 0 0 ↔ v = .slice none 0 0 ∧ k = 0) → Below A.heap.size A w' → w.grownBy w' v.ownBlock → K (a.put d v') w') : o.wp Try.prog a w K Q := by
  subst hm
  obtain ⟨q, cap, rfl, hq, hsrc⟩ := hsl.src
  refine appW A d hd ho Try.underlying22 infoInt rfl (by omega) hs hown (ints m) hx hq (by rw [ints_len, Nat.mul_one]) hsrc (ints_one m) (by unfold maxLen; omega) h63 hA fun v' w' h1 h2 h3 h4 => ?_
  rw [ints_append] at h1
  exact h v' w' h1 h2 h3 h4
theorem mkW {K : Act → World → Prop} (A : World) (d : Option Tmp) (hd : o.dst = d) {x y : Operand} (ho : o.op = .makeSlice 22 x y)
    {c : Nat} {C : Int} (hx : a.eval x = .int .i64 0) (hy : a.eval y = .int .i64 C) (hC : C = (c : Int)) (hb : 8 * c ≤ 281474976710656) (hA : Below A.heap.size A w)
    (h : ∀ v w', w'.ownsRow A.heap.size 3 1 v 0 (ints []) → v ≠ .slice none 0 0 → Below A.heap.size A w' → K (a.put d v) w') : o.wp Try.prog a w K Q := by
  subst hC
  subst hd
  obtain ⟨i, hi, hz0, hz1, hz2⟩ := info_parts infoInt
  obtain ⟨w', hr, ho', hg⟩ := run_make_own (P := Try.prog) w A.heap.size 22 3 i _ 1 Try.underlying22 hi hz0 hz1 .i64 .i64 c (by rw [hz2]; exact hb) (by unfold maxLen; omega) hA.size
  unfold Oper.wp execOp
  simp only [ho, Sem.run_bind, hx, hy, hr, Result.andThen_ok]
  exact h _ _ ho' (by simp) (below_grown hA hg)
end
theorem app_s2 {ops : Array Oper} {rest : List Oper} {o : Oper} {a : Act} {w : World} {Q : Exit → Act → World → Prop} (A : World) (hw : Region.wanted o (yielded ops a.tmps) = true) {s x : Operand} {t e : TypeId} {k bytes : Nat} {ks : Nat → IntKind} (ho : o.op = .call { callee := .builtin .append, args := #[s, x], argTypes := #[t, t] })
    (hk : 0 < k) (ht : Try.prog.underlying t = some (.slice e)) (hinf : (Try.prog.info? e).map (fun i => (i.zero, i.size, i.bytes)) = some (some (.agg (AG k ks zc)), k, bytes))
    {v vx : Value} {l m : List (Nat → Int)} (hs : a.eval s = v) (hown : SO e k ks w A.heap.size v l) (hx : a.eval x = vx) (hsl : SR k ks w vx m) (h63 : l.length + m.length ≤ maxLen) (hbytes : (l.length + m.length) * bytes ≤ 140737488355328) (hA : Below A.heap.size A w)
    (h : ∀ v' w', SO e k ks w' A.heap.size v' (l ++ m) → Below A.heap.size A w' → wpList Try.prog ops Q rest (a.put o.dst v') w') : wpList Try.prog ops Q (o :: rest) a w := by
  obtain ⟨q, cap, rfl, hq, hsrc⟩ := hsl.src hk
  refine app_ownG A hw ho ht hinf (by show (AG k ks zc).size = k; exact AG_size _ _ _) hk hs hown (flatA k ks m) hx hq (flatA_len k ks m) hsrc (flatA_one k ks m) h63 hbytes hA fun v' w' h1 h2 h3 h4 => ?_
  rw [flatA_append] at h1
  exact h v' w' (so_of h1 hk) h3
/-- A copy of numbers, with a mark behind them. -/
def Cn (W : World) (base : Nat) (v : Value) (l : List Int) : Prop := ∃ g cap, v = .slice (some ⟨g, 0, none⟩) l.length cap ∧ Io W base (.slice (some ⟨g, 0, none⟩) (l ++ [-77]).length cap) (l ++ [-77])
theorem Cn.keep {W W' : World} {base : Nat} {v : Value} {l : List Int} (h : Cn W base v l) (hb : Below W.heap.size W W') : Cn W' base v l := by
  obtain ⟨g, cap, rfl, h1⟩ := h
  exact ⟨g, cap, rfl, h1.keep hb⟩
theorem Cn.chg {W W' : World} {base b : Nat} {v : Value} {l : List Int} (h : Cn W base v l) (hc : Chg b W W') (hb : b < base) : Cn W' base v l := by
  obtain ⟨g, cap, rfl, h1⟩ := h
  exact ⟨g, cap, rfl, io_chg h1 hc hb⟩
theorem Cn.less {W : World} {base base' : Nat} {v : Value} {l : List Int} (h : Cn W base v l) (hb : base' ≤ base) : Cn W base' v l := by
  obtain ⟨g, cap, rfl, h1⟩ := h
  exact ⟨g, cap, rfl, h1.less hb⟩
theorem Cn.open {W : World} {base : Nat} {v : Value} {l : List Int} (h : Cn W base v l) : Is W v l ∧ ∃ g cap, v = .slice (some ⟨g, 0, none⟩) l.length cap ∧ l.length + 1 ≤ cap ∧ W.cell? ⟨g, l.length, none⟩ = some (.int .i64 (-77)) := by
  obtain ⟨g, cap, rfl, h1⟩ := h
  obtain ⟨q, cap', g', off, e, x1, x2, x3, x4, x5⟩ := h1.is
  cases e
  have := x3 (by simp)
  cases this
  rw [List.length_append] at x1
  refine ⟨⟨_, cap, g, 0, rfl, Nat.le_trans (Nat.le_add_right _ _) x1, x2, fun _ => rfl, fun _ => x4 (by simp), fun j x hj => x5 j x ?_⟩, g, cap, rfl, x1, ?_⟩
  · rw [List.getElem?_append_left (List.getElem?_eq_some_iff.1 hj).1]; exact hj
  · have := x5 l.length (-77) (by simp)
    rwa [Nat.zero_add] at this
theorem Cn.is {W : World} {base : Nat} {v : Value} {l : List Int} (h : Cn W base v l) : Is W v l := h.open.1
theorem sep_old {W : World} {base e size n : Nat} {v u : Value} {xs : List Value} (h : W.ownsRow base e size v n xs) (hu : u.ownBlock = some W.heap.size) : Sep u v := by
  intro k hk hv
  have := World.ownsRow.lt h k hv
  rw [hu] at hk
  cases hk
  omega
theorem copied_cn {W : World} {base n g cap : Nat} {l : List Int} (h : W.ownsRow base 3 1 (.slice (some ⟨g, 0, none⟩) (0 + n + 1) cap) (0 + n + 1) (ints ([] ++ l ++ [-77]))) (hn : l.length = n) : Cn W base (.slice (some ⟨g, 0, none⟩) n cap) l := by
  subst hn
  refine ⟨g, cap, rfl, ?_⟩
  have e : (l ++ [-77]).length = 0 + l.length + 1 := by simp
  unfold Io
  rw [e]
  simpa using h
theorem sliced_0 (g n cap : Nat) : sliced (some ⟨g, 0, none⟩) 0 n cap 1 = .slice (some ⟨g, 0, none⟩) n cap := by
  unfold sliced
  simp [Addr.add]
theorem st_keep {W : World} {b i : Nat} {cs : Array Value} {t : TypeId} (h : Blk W b cs t) (x : Value) : Chg b W (W.setCell ⟨b, i, none⟩ x) := chg_set W b i x

set_option maxHeartbeats 4000000 in
set_option maxRecDepth 100000 in
theorem copied_any (N : Nt) (vn vo ve : Value) (w : World) (h1 : Is w vn N.ns) (h2 : SR 5 k64 w vo N.os) (h3 : SR 76 ek w ve N.es) (hL : LenN N) :
    Calls Try.prog 11 #[ntV N vn vo ve] w fun e w' => ∃ un uo ue, e = .returned (ntV N un uo ue) ∧ Cn w' w.heap.size un N.ns ∧ SO 73 5 k64 w' w.heap.size uo N.os ∧ SO 82 76 ek w' w.heap.size ue N.es ∧ Below w.heap.size w w' := by
  obtain ⟨q1, c1, g1, o1, e1, -⟩ := id h1
  subst e1
  obtain ⟨q2, c2, g2, o2, e2, -⟩ := id h2
  subst e2
  obtain ⟨q3, c3, g3, o3, e3, -⟩ := id h3
  subst e3
  obtain ⟨z1, z2, z3⟩ := hL
  have hn0 : ∃ n, N.ns.length = n := ⟨_, rfl⟩
  obtain ⟨n, hn⟩ := hn0
  rw [hn] at h1 z1 ⊢
  generalize hno : N.os.length = no at *
  generalize hne : N.es.length = ne at *
  have hA := ab_alloc (ab_alloc (Below.refl w.heap.size w) (.cells #[.int .i64 N.k, .int .i64 N.f, .int .i64 N.t, .slice q1 n c1, .slice q2 no c2, .slice q3 ne c3] 26)) (.cells zNt 26)
  have hP := (Blk.new w #[.int .i64 N.k, .int .i64 N.f, .int .i64 N.t, .slice q1 n c1, .slice q2 no c2, .slice q3 ne c3] 26).alloc (.cells zNt 26)
  have hR := Blk.new (w.alloc (.cells #[.int .i64 N.k, .int .i64 N.f, .int .i64 N.t, .slice q1 n c1, .slice q2 no c2, .slice q3 ne c3] 26)) zNt 26
  rw [show (w.alloc (.cells #[.int .i64 N.k, .int .i64 N.f, .int .i64 N.t, .slice q1 n c1, .slice q2 no c2, .slice q3 ne c3] 26)).heap.size = w.heap.size + 1 by simp] at hR
  have i1 := h1.keep hA
  go_enter Try.func11, Try.ntmps11
  go_upto_region 1 with fail
  generalize (w.alloc (.cells #[.int .i64 N.k, .int .i64 N.f, .int .i64 N.t, .slice q1 n c1, .slice q2 no c2, .slice q3 ne c3] 26)).alloc (.cells zNt 26) = V at *
  have hzV : w.heap.size + 1 < V.heap.size := hR.lt
  have DP : ∀ W, Below V.heap.size V W → Six W w.heap.size (.int .i64 N.k) (.int .i64 N.f) (.int .i64 N.t) (.slice q1 n c1) (.slice q2 no c2) (.slice q3 ne c3) := fun W hb => six (hP.keep hb)
  have x1 : IntKind.i64.wrap ((n : Int) + 1) = (n : Int) + 1 := by simp [IntKind.wrap, IntKind.signed, IntKind.bits] <;> omega
  go_cut [] from 3 to 17 (fun wc => ∃ un, Cn wc V.heap.size un N.ns ∧ Blk wc w.heap.size #[.int .i64 N.k, .int .i64 N.f, .int .i64 N.t, un, .slice q2 no c2, .slice q3 ne c3] 26 ∧ Blk wc (w.heap.size + 1) zNt 26 ∧ Below w.heap.size w wc)
  case first =>
    refine region_L 15 (S := fun w' => Below V.heap.size V w') (by kernel_rfl) (ab_drew (Below.refl _ _)) (fun hHeld => ?_)
    refine takeL (i := 0) [1, 2, 3, 4, 7, 9, 13, 15] (some 3) (by rfl) rfl rfl (by kernel_rfl) (by kernel_rfl) (by kernel_rfl) (by kernel_rfl) (fun _ _ _ h => h) (by rfl) (fun w hSw => by (try dsimp only at hSw); go_simp; try rfl) hHeld ?_
    go_frame
    refine takeL (i := 1) [2, 3, 4, 7, 9, 13, 15] (some 4) (by rfl) rfl rfl (by kernel_rfl) (by kernel_rfl) (by kernel_rfl) (by kernel_rfl) (fun _ _ _ h => h) (by rfl) (fun w hSw => by (try dsimp only at hSw); (have hcc := (DP _ hSw).c3; go_simp; try rfl)) hHeld ?_
    go_frame
    refine takeL (i := 2) [3, 4, 7, 9, 13, 15] (some 5) (by rfl) rfl rfl (by kernel_rfl) (by kernel_rfl) (by kernel_rfl) (by kernel_rfl) (fun _ _ _ h => h) (by rfl) (fun w hSw => by (try dsimp only at hSw); go_simp; try rfl) hHeld ?_
    go_frame
    refine takeL (i := 3) [4, 7, 9, 13, 15] (some 6) (by rfl) rfl rfl (by kernel_rfl) (by kernel_rfl) (by kernel_rfl) (by kernel_rfl) (fun _ _ _ h => h) (by rfl) (fun w hSw => by (try dsimp only at hSw); go_simp; try rfl) hHeld ?_
    go_frame
    refine takeL (i := 5) [6, 7, 9, 13, 15] (some 8) (by rfl) rfl rfl (by kernel_rfl) (by kernel_rfl) (by kernel_rfl) (by kernel_rfl) (fun _ _ _ h => h) (by rfl) (fun w hSw => by (try dsimp only at hSw); go_simp; try rfl) hHeld ?_
    go_frame
    refine takeL (i := 6) [7, 9, 13, 15] (some 9) (by rfl) rfl rfl (by kernel_rfl) (by kernel_rfl) (by kernel_rfl) (by kernel_rfl) (fun _ _ _ h => h) (by rfl) (fun w hSw => by (try dsimp only at hSw); (have hcc := (DP _ hSw).c3; go_simp; try rfl)) hHeld ?_
    go_frame
    refine takeL (i := 10) [11, 12, 13, 15] (some 13) (by rfl) rfl rfl (by kernel_rfl) (by kernel_rfl) (by kernel_rfl) (by kernel_rfl) (fun _ _ _ h => h) (by rfl) (fun w hSw => by (try dsimp only at hSw); go_simp; try rfl) hHeld ?_
    go_frame
    refine takeL (i := 11) [12, 13, 15] (some 14) (by rfl) rfl rfl (by kernel_rfl) (by kernel_rfl) (by kernel_rfl) (by kernel_rfl) (fun _ _ _ h => h) (by rfl) (fun w hSw => by (try dsimp only at hSw); (have hcc := (DP _ hSw).c3; go_simp; try rfl)) hHeld ?_
    go_frame
    refine takeL (i := 12) [13, 15] (some 15) (by rfl) rfl rfl (by kernel_rfl) (by kernel_rfl) (by kernel_rfl) (by kernel_rfl) (fun _ _ _ h => h) (by rfl) (fun w hSw => by (try dsimp only at hSw); go_simp; try rfl) hHeld ?_
    go_frame
    refine anyL_ready (rs := [4, 8]) (by kernel_rfl) (by simp) ?_
    refine AllL.cons rfl (fun K hK => ?_) (AllL.cons rfl (fun K hK => ?_) AllL.nil)
    · rw [if_pos (by rfl)]
      refine mkW V (some 7) rfl rfl (c := n + 1) rfl rfl (by omega) (by omega) hHeld ?_
      intro v1 W1 own1 nn1 bV1
      refine hK.out _ _ bV1 (fun hHeld => ?_)
      clear hK K
      go_frame
      refine anyL_ready (rs := [7, 8]) (by kernel_rfl) (by simp) ?_
      refine AllL.cons rfl (fun K hK => ?_) (AllL.cons rfl (fun K hK => ?_) AllL.nil)
      · rw [if_pos (by rfl)]
        refine appiW V (some 10) rfl rfl rfl own1 rfl (i1.keep hHeld) hn (by omega) hHeld ?_
        intro v2 W2 own2 nn2 bV2 gr2
        refine hK.out _ _ bV2 (fun hHeld => ?_)
        clear hK K
        go_frame
        refine anyL_ready (rs := [8]) (by kernel_rfl) (by simp) (AllL.cons rfl (fun K hK => ?_) AllL.nil)
        rw [if_pos (by rfl)]
        refine bs_iW (some 11) rfl rfl [-77] (by simp only [List.map_toArray, List.map_cons, List.map_nil]; rfl) (isl1 _ _) rfl (by decide) fun W3 own3 b3 => ?_
        refine hK.out _ _ (ab_trans hHeld b3) (fun hHeld => ?_)
        clear hK K
        go_frame
        have ownT := own_keep own2 b3
        have isT := own_is own3
        refine anyL_ready (rs := [9]) (by kernel_rfl) (by simp) (AllL.cons rfl (fun K hK => ?_) AllL.nil)
        rw [if_pos (by rfl)]
        refine appiW V (some 12) rfl rfl rfl ownT rfl isT (k := 1) rfl (by omega) hHeld ?_
        intro v4 W4 own4 nn4 bV4 gr4
        obtain ⟨g4, cap4, e4, hb4, hl4, hc4, -, -⟩ := own_cells own4 (fun e => absurd (nn4.1 e).2 (by simp))
        subst e4
        refine hK.out _ _ bV4 (fun hHeld => ?_)
        clear hK K
        go_frame
        refine takeL (i := 13) [15] (some 16) (by rfl) rfl rfl (by kernel_rfl) (by kernel_rfl) (by kernel_rfl) (by kernel_rfl) (fun _ _ _ h => h) (by rfl) (fun w hSw => by (try dsimp only at hSw); exact sli_h_run rfl rfl rfl rfl (by omega)) hHeld ?_
        go_frame
        rw [sliced_0]
        refine takeL (i := 14) [15] (some 17) (by rfl) rfl rfl (by kernel_rfl) (by kernel_rfl) (by kernel_rfl) (by kernel_rfl) (fun _ _ _ h => h) (by rfl) (fun w hSw => by (try dsimp only at hSw); go_simp; try rfl) hHeld ?_
        go_frame
        obtain ⟨-, -, -, p3, -, -, -, -, -, f3, -, -⟩ := DP _ hHeld
        refine anyL_ready (rs := [15]) (by kernel_rfl) (by simp) (AllL.last rfl (by kernel_rfl) (fun K hK => ?_))
        go_simp
        refine hK.out _ _ ?_
        clear hK K
        refine anyL_done (by kernel_rfl) ?_
        go_wp2_with fail
        go_meet
        case rel => exact ⟨_, (copied_cn own4 hn).chg (chg_set _ _ 3 _) (by omega), (hP.keep bV4).set 3 _, (hR.keep bV4).chg (chg_set _ _ 3 _) (by omega), ab_chg (ab_trans hA bV4) (chg_set _ _ 3 _) (Nat.le_refl _)⟩
      · rw [if_pos (by rfl)]
        refine bs_iW (some 11) rfl rfl [-77] (by simp only [List.map_toArray, List.map_cons, List.map_nil]; rfl) (isl1 _ _) rfl (by decide) fun W2 own3 b3 => ?_
        have own1b := own_keep own1 b3
        have hsep : Sep (.slice (some ⟨W1.heap.size, 0, none⟩) 1 1) v1 := sep_old own1 rfl
        refine hK.out _ _ (ab_trans hHeld b3) (fun hHeld => ?_)
        clear hK K
        go_frame
        refine anyL_ready (rs := [7]) (by kernel_rfl) (by simp) (AllL.cons rfl (fun K hK => ?_) AllL.nil)
        rw [if_pos (by rfl)]
        refine appiW V (some 10) rfl rfl rfl own1b rfl (i1.keep hHeld) hn (by omega) hHeld ?_
        intro v2 W3 own2 nn2 bV2 gr2
        refine hK.out _ _ bV2 (fun hHeld => ?_)
        clear hK K
        go_frame
        have ownT := own2
        have isT := ((io_of own3).kept gr2 hsep).is
        refine anyL_ready (rs := [9]) (by kernel_rfl) (by simp) (AllL.cons rfl (fun K hK => ?_) AllL.nil)
        rw [if_pos (by rfl)]
        refine appiW V (some 12) rfl rfl rfl ownT rfl isT (k := 1) rfl (by omega) hHeld ?_
        intro v4 W4 own4 nn4 bV4 gr4
        obtain ⟨g4, cap4, e4, hb4, hl4, hc4, -, -⟩ := own_cells own4 (fun e => absurd (nn4.1 e).2 (by simp))
        subst e4
        refine hK.out _ _ bV4 (fun hHeld => ?_)
        clear hK K
        go_frame
        refine takeL (i := 13) [15] (some 16) (by rfl) rfl rfl (by kernel_rfl) (by kernel_rfl) (by kernel_rfl) (by kernel_rfl) (fun _ _ _ h => h) (by rfl) (fun w hSw => by (try dsimp only at hSw); exact sli_h_run rfl rfl rfl rfl (by omega)) hHeld ?_
        go_frame
        rw [sliced_0]
        refine takeL (i := 14) [15] (some 17) (by rfl) rfl rfl (by kernel_rfl) (by kernel_rfl) (by kernel_rfl) (by kernel_rfl) (fun _ _ _ h => h) (by rfl) (fun w hSw => by (try dsimp only at hSw); go_simp; try rfl) hHeld ?_
        go_frame
        obtain ⟨-, -, -, p3, -, -, -, -, -, f3, -, -⟩ := DP _ hHeld
        refine anyL_ready (rs := [15]) (by kernel_rfl) (by simp) (AllL.last rfl (by kernel_rfl) (fun K hK => ?_))
        go_simp
        refine hK.out _ _ ?_
        clear hK K
        refine anyL_done (by kernel_rfl) ?_
        go_wp2_with fail
        go_meet
        case rel => exact ⟨_, (copied_cn own4 hn).chg (chg_set _ _ 3 _) (by omega), (hP.keep bV4).set 3 _, (hR.keep bV4).chg (chg_set _ _ 3 _) (by omega), ab_chg (ab_trans hA bV4) (chg_set _ _ 3 _) (Nat.le_refl _)⟩
    · rw [if_pos (by rfl)]
      refine bs_iW (some 11) rfl rfl [-77] (by simp only [List.map_toArray, List.map_cons, List.map_nil]; rfl) (isl1 _ _) rfl (by decide) fun W1 own3 b3 => ?_
      have zV1 : V.heap.size ≤ W1.heap.size := Nat.le_trans hHeld.size b3.size
      have bV1 := ab_trans hHeld b3
      refine hK.out _ _ bV1 (fun hHeld => ?_)
      clear hK K
      go_frame
      refine anyL_ready (rs := [4]) (by kernel_rfl) (by simp) (AllL.cons rfl (fun K hK => ?_) AllL.nil)
      rw [if_pos (by rfl)]
      refine mkW W1 (some 7) rfl rfl (c := n + 1) rfl rfl (by omega) (by omega) (Below.refl _ _) ?_
      intro v1 W2 own1 nn1 b12
      refine hK.out _ _ (ab_trans bV1 b12) (fun hHeld => ?_)
      clear hK K
      go_frame
      refine anyL_ready (rs := [7]) (by kernel_rfl) (by simp) (AllL.cons rfl (fun K hK => ?_) AllL.nil)
      rw [if_pos (by rfl)]
      refine appiW W1 (some 10) rfl rfl rfl own1 rfl (i1.keep hHeld) hn (by omega) b12 ?_
      intro v2 W3 own2 nn2 b13 gr2
      refine hK.out _ _ (ab_trans bV1 b13) (fun hHeld => ?_)
      clear hK K
      go_frame
      have ownT := own_less own2 zV1
      have isT := (own_is own3).keep b13
      refine anyL_ready (rs := [9]) (by kernel_rfl) (by simp) (AllL.cons rfl (fun K hK => ?_) AllL.nil)
      rw [if_pos (by rfl)]
      refine appiW V (some 12) rfl rfl rfl ownT rfl isT (k := 1) rfl (by omega) hHeld ?_
      intro v4 W4 own4 nn4 bV4 gr4
      obtain ⟨g4, cap4, e4, hb4, hl4, hc4, -, -⟩ := own_cells own4 (fun e => absurd (nn4.1 e).2 (by simp))
      subst e4
      refine hK.out _ _ bV4 (fun hHeld => ?_)
      clear hK K
      go_frame
      refine takeL (i := 13) [15] (some 16) (by rfl) rfl rfl (by kernel_rfl) (by kernel_rfl) (by kernel_rfl) (by kernel_rfl) (fun _ _ _ h => h) (by rfl) (fun w hSw => by (try dsimp only at hSw); exact sli_h_run rfl rfl rfl rfl (by omega)) hHeld ?_
      go_frame
      rw [sliced_0]
      refine takeL (i := 14) [15] (some 17) (by rfl) rfl rfl (by kernel_rfl) (by kernel_rfl) (by kernel_rfl) (by kernel_rfl) (fun _ _ _ h => h) (by rfl) (fun w hSw => by (try dsimp only at hSw); go_simp; try rfl) hHeld ?_
      go_frame
      obtain ⟨-, -, -, p3, -, -, -, -, -, f3, -, -⟩ := DP _ hHeld
      refine anyL_ready (rs := [15]) (by kernel_rfl) (by simp) (AllL.last rfl (by kernel_rfl) (fun K hK => ?_))
      go_simp
      refine hK.out _ _ ?_
      clear hK K
      refine anyL_done (by kernel_rfl) ?_
      go_wp2_with fail
      go_meet
      case rel => exact ⟨_, (copied_cn own4 hn).chg (chg_set _ _ 3 _) (by omega), (hP.keep bV4).set 3 _, (hR.keep bV4).chg (chg_set _ _ 3 _) (by omega), ab_chg (ab_trans hA bV4) (chg_set _ _ 3 _) (Nat.le_refl _)⟩
  case rest =>
    obtain ⟨un, cn1, hB1, hR1, bw1⟩ := hcut
    have s2 := h2.keep bw1
    have s3 := h3.keep bw1
    have hzc := hR1.lt
    have Cn1 : Hid (Cn wc V.heap.size un N.ns) := cn1
    have hzv1 : V.heap.size ≤ wc.heap.size := by have hx := cn1.open.1; obtain ⟨g, cap, -, hio⟩ := cn1; have := World.ownsRow.lt hio g rfl; omega
    clear cn1 DP hP hR i1 h1 hA x1 z1
    have r4 : ∀ o, (wc.alloc o).cell? ⟨w.heap.size, 4, none⟩ = some (.slice q2 no c2) := fun o => (six (hB1.alloc o)).c4
    go_upto_region 3 with (at_builtin; refine app_s2 wc (l := []) (m := N.os) rfl rfl (by omega) Try.underlying23 infoOp rfl (own_empty wc wc 73 5 (Nat.le_refl _)) rfl (s2.keep (ab_alloc (Below.refl _ _) _)) (by simp; unfold maxLen; omega) (by simp; omega) (ab_alloc (Below.refl _ _) _) ?_; intro v3 W3 so3 b3; rw [List.nil_append] at so3; obtain ⟨q6, c6, e6⟩ := so3.form (by omega); rw [hno] at e6; subst e6; obtain ⟨p0, p1, p2, p3, p4, p5, f0, f1, f2, f3, f4, f5⟩ := six (hB1.keep b3))
    have C3 := chg_set W3 w.heap.size 4 (.slice q6 no c6)
    have hB3 := (hB1.keep b3).set 4 (.slice q6 no c6)
    have hR3 := (hR1.keep b3).chg C3 (by omega)
    have so4 := so_chg so3 C3 (by omega)
    have Cn3 : Hid (Cn (W3.setCell ⟨w.heap.size, 4, none⟩ (.slice q6 no c6)) V.heap.size un N.ns) := (Cn1.out.keep b3).chg C3 (by omega)
    have bw3 := ab_chg (ab_trans bw1 b3) C3 (Nat.le_refl _)
    have hz3 : wc.heap.size ≤ (W3.setCell ⟨w.heap.size, 4, none⟩ (.slice q6 no c6)).heap.size := Nat.le_trans b3.size (Nat.le_of_eq (by simp))
    clear Cn1 s2 hB1 hR1 r4 so3 C3 b3 p0 p1 p2 p3 p4 p5 f0 f1 f2 f3 f4 f5 bw1
    generalize W3.setCell ⟨w.heap.size, 4, none⟩ (.slice q6 no c6) = V3 at *
    have hB3' : Blk V3 w.heap.size #[.int .i64 N.k, .int .i64 N.f, .int .i64 N.t, un, .slice q6 no c6, .slice q3 ne c3] 26 := hB3
    clear hB3
    have s5 := h3.keep bw3
    have r5 : ∀ o, (V3.alloc o).cell? ⟨w.heap.size, 5, none⟩ = some (.slice q3 ne c3) := fun o => (six (hB3'.alloc o)).c5
    go_upto_region 4 with (at_builtin; refine app_s2 V3 (l := []) (m := N.es) rfl rfl (by omega) Try.underlying24 infoEnt rfl (own_empty V3 V3 82 76 (Nat.le_refl _)) rfl (s5.keep (ab_alloc (Below.refl _ _) _)) (by simp; unfold maxLen; omega) (by simp; omega) (ab_alloc (Below.refl _ _) _) ?_; intro v5 W5 so5 b5; rw [List.nil_append] at so5; obtain ⟨q7, c7, e7⟩ := so5.form (by omega); rw [hne] at e7; subst e7; obtain ⟨p0, p1, p2, p3, p4, p5, f0, f1, f2, f3, f4, f5⟩ := six (hB3'.keep b5))
    have C5 := chg_set W5 w.heap.size 5 (.slice q7 ne c7)
    have hB5 := (hB3'.keep b5).set 5 (.slice q7 ne c7)
    have hR5 := (hR3.keep b5).chg C5 (by omega)
    have so6' := so_chg so5 C5 (by omega)
    have so4' := so_chg (so4.keep b5) C5 (by omega)
    have Cn5 : Hid (Cn (W5.setCell ⟨w.heap.size, 5, none⟩ (.slice q7 ne c7)) V.heap.size un N.ns) := (Cn3.out.keep b5).chg C5 (by omega)
    have bw5 := ab_chg (ab_trans bw3 b5) C5 (Nat.le_refl _)
    have hz5 : V3.heap.size ≤ (W5.setCell ⟨w.heap.size, 5, none⟩ (.slice q7 ne c7)).heap.size := Nat.le_trans b5.size (Nat.le_of_eq (by simp))
    clear Cn3 s5 hB3' hR3 r5 so5 so4 C5 b5 p0 p1 p2 p3 p4 p5 f0 f1 f2 f3 f4 f5 bw3
    generalize W5.setCell ⟨w.heap.size, 5, none⟩ (.slice q7 ne c7) = V5 at *
    have hB5' : Blk V5 w.heap.size #[.int .i64 N.k, .int .i64 N.f, .int .i64 N.t, un, .slice q6 no c6, .slice q7 ne c7] 26 := hB5
    clear hB5
    obtain ⟨gU, capU, eU, -⟩ := Cn5.out
    rw [hn] at eU
    subst eU
    obtain ⟨p0, p1, p2, p3, p4, p5, -, -, -, -, -, -⟩ := six hB5'
    obtain ⟨y0, y1, y2, y3, y4, y5, f0, f1, f2, f3, f4, f5⟩ := six hR5
    go_wp2_with fail
    obtain ⟨hR6, C6⟩ := blk_six hR5 (.int .i64 N.k) (.int .i64 N.f) (.int .i64 N.t) (.slice (some ⟨gU, 0, none⟩) n capU) (.slice q6 no c6) (.slice q7 ne c7)
    exact bodyPost_ret (results_cell_row rfl _ _ _ 26 _ (0, 0) _ rfl hR6 Try.underlying26 rfl (info_note _ _ _ _ _ _)) rfl
      ⟨_, _, _, rfl, (Cn5.out.chg C6 (by omega)).less (by omega), (so_chg so4' C6 (by omega)).less (by omega), (so_chg so6' C6 (by omega)).less (by omega), ab_chg bw5 C6 (by omega)⟩
end Go.Proofs.Ytjbhicjnnghjjaa
