/-
  Places and ballots come back from their numbers: estuarylaw05.NotePlaces returns true for every input; no condition.
-/
import Derived.Test.YtjbhicjnnghjjaaPk17
import Derived.Test.YtjbhicjnnghjjaaPk13
import Derived.ProofKit
import Derived.OpenShut
import Derived.ChangeOld
import Derived.Below
import Derived.Lib.SmallJoins
namespace Go.Proofs.Ytjbhicjnnghjjaa.notePlaces
open Go.ChangeShapes Go.WideShapes Go.ChangeAt Go.RowKit Go.Joins
set_option linter.unusedVariables false

theorem isl3 (a b c : Int) (w : World) : (Instr.buildSlice 22 3 #[(0, .int .i64 a), (1, .int .i64 b), (2, .int .i64 c)]).run Try.prog w = .ok (.slice (some ⟨w.heap.size, 0, none⟩) 3 3) (w.alloc (.cells (ints [a, b, c]).toArray 3)) := by kernel_rfl
theorem app3_at (l : List Int) : (l ++ [0, 0, 0])[0]? = some (l.getD 0 0) ∧ (l ++ [0, 0, 0])[1]? = some (l.getD 1 0) ∧ (l ++ [0, 0, 0])[2]? = some (l.getD 2 0) := by
  rcases l with _ | ⟨a, _ | ⟨b, _ | ⟨c, r⟩⟩⟩ <;> simp
theorem ints_is (v1 v2 : Value) (l1 l2 : List Int) (w : World) (h1 : Is w v1 l1) (h2 : Is w v2 l2) (hm1 : l1.length ≤ 100000) (hm2 : l2.length ≤ 100000) :
    Calls Try.prog 25 #[v1, v2] w fun e w' => e = .returned (.bool (decide (l1 = l2))) ∧ Below w.heap.size w w' := by
  obtain ⟨q1, c1, g1, o1, rfl, _, _, hp1, hg1, hr1⟩ := h1
  obtain ⟨q2, c2, g2, o2, rfl, _, _, hp2, hg2, hr2⟩ := h2
  exact ints_any q1 g1 o1 c1 _ l1 q2 g2 o2 c2 _ l2 w rfl rfl hm1 hm2 hp1 hp2 hr1 hr2 hg1 hg2
set_option maxHeartbeats 20000000 in
set_option maxRecDepth 100000 in
theorem walk {W : World} (v0 : Value) (ps : List (Nat → Int)) (S0 : SR 2 k64 W v0 ps) (B0 : ∀ x ∈ ps, Fit (x 0) ∧ Fit (x 1)) (v1 : Value) (ns : List Int) (S1 : Is W v1 ns) (B1 : In64 ns) :
    Calls Try.prog 7 #[v0, v1] W fun e w' => e = .returned (.bool true) ∧ Below W.heap.size W w' := by
  obtain ⟨q0, c0, g0, o0, e0, hl0, hc0, hp0, hg0, hr0⟩ := id S0
  subst e0
  obtain ⟨q1, c1, g1, o1, e1, -⟩ := id S1
  subst e1
  have HL : Hid ((ps.flatMap plN).length = 2 * ps.length) := plN_len ps
  have HB : Hid (EqL 2 (plsL (ps.flatMap plN) ps.length) ps) := pls_back ps
  have HAt : Hid (∀ (j : Nat) (p : Nat → Int), ps[j]? = some p → (ps.flatMap plN)[2 * j]? = some (p 0) ∧ (ps.flatMap plN)[2 * j + 1]? = some (p 1)) := plN_at ps
  generalize hL : ps.flatMap plN = L at *
  generalize hm : ps.length = m at *
  generalize hn : ns.length = n at *
  go_enter Try.func7, Try.ntmps7
  go_upto_region 3 with (go_at_call 9; refine (alive5_any _).mono ?_; rintro e V1 ⟨rfl, b1⟩)
  by_cases hb0 : 3000 < m
  · go_wp2_with fail
    go_ret
    exact ⟨rfl, b1⟩
  by_cases hb1 : 3000 < n
  · have d0 : decide (3000 < (m : Int)) = false := decide_eq_false (by omega)
    go_wp2_with fail
    go_ret
    exact ⟨rfl, b1⟩
  have d0 : decide (3000 < (m : Int)) = false := decide_eq_false (by omega)
  have d1 : decide (3000 < (n : Int)) = false := decide_eq_false (by omega)
  go_upto_region 6 with (go_at_call 23; refine (spread_ps _ ps _ (S0.keep b1) (by omega)).mono ?_; rw [hL]; rintro e V2 ⟨vs, rfl, Os, b2⟩)
  clear d0 d1
  have hM := HL.out
  go_upto_region 7 with (go_at_call 24; refine (places_any _ L m _ Os.is (by omega) (by omega)).mono ?_; rintro e V3 ⟨vp, rfl, Op, b3⟩)
  have Ps := (Op.sr (by omega)).congr HB.out
  have Is3 := Os.is.keep b3
  have bb3 := ab_trans (ab_trans b1 b2) b3
  clear Os Op b1 b2 b3 HB
  obtain ⟨qs, cs, gs, os, es, hls, hcs, hps, hgs, hrs⟩ := id Is3
  subst es
  obtain ⟨qp, cp, gp, op, ep, hlp, hcp, hpp, hgp, hrp⟩ := id Ps
  rw [hm] at ep hlp hpp hgp
  subst ep
  generalize hM2 : L.length = M at *
  have e2 : (2 : Int) * (m : Int) = (M : Int) := by omega
  have HM : Hid (M = 2 * m) := hM
  have em : ((M : Int) != (M : Int)) = false := by simp
  clear hM HL
  have em2 : ((m : Int) != (m : Int)) = false := by simp
  go_wp2_with fail
  clear e2 em em2
  go_loopw [39] (fun i wr => ∃ j : Nat, j ≤ m ∧ i = .int .i64 (j : Int) ∧ Below V3.heap.size V3 wr) (fun i _ => m - (intOf i).toNat)
  case atStart => exact ⟨0, by omega, rfl, Below.refl _ _⟩
  case round =>
    obtain ⟨j, hj, rfl, hb⟩ := hrel
    by_cases cj : j = m
    · subst cj
      have bw := ab_trans bb3 hb
      have s1 := S1.keep bw
      obtain ⟨h, hh⟩ : ∃ h, n / 2 = h := ⟨_, rfl⟩
      obtain ⟨H2, hH2⟩ : ∃ H2, H2 = 2 * h := ⟨_, rfl⟩
      have hdv : ((n : Nat) : Int).tdiv 2 = (h : Int) := by rw [Int.tdiv_eq_ediv_of_nonneg (by omega)]; omega
      have hwh : IntKind.i64.wrap (h : Int) = (h : Int) := by simp [IntKind.wrap, IntKind.signed, IntKind.bits] <;> omega
      have hml : IntKind.i64.wrap ((h : Int) * 2) = (H2 : Int) := by simp [IntKind.wrap, IntKind.signed, IntKind.bits] <;> omega
      have HQ : Hid ((plsL ns h).flatMap plN = ns.take H2) := by show _ = _; rw [hH2]; exact nums_pls ns h (by omega)
      have HC : Hid (n / 2 = h ∧ H2 ≤ n ∧ H2 ≤ c1) := ⟨hh, by omega, by have := s1.len; omega⟩
      have HT : Hid ((ns.take H2).length ≤ 100000) := by show _ ≤ _; rw [List.length_take]; omega
      obtain ⟨q7, e7⟩ : ∃ q7, sliced q1 0 H2 c1 1 = .slice q7 H2 c1 := sliced_form q1 0 H2 c1
      have HE7 : Hid (sliced q1 0 H2 c1 1 = .slice q7 H2 c1) := e7
      have i7 : Is wr (.slice q7 H2 c1) (ns.take H2) := by have := s1.sub (Nat.zero_le H2) HC.out.2.1 (Nat.le_refl _) HC.out.2.2 e7.symm; simpa using this
      clear e7 hb bb3 Is3 Ps HAt HM hrp hgp hpp hrs hgs hps hr0 hg0 hp0 S0 S1 hH2 hh hls hcs hlp hcp hl0 hc0 B0 hj
      go_upto_region 16 with (go_at_call 24; refine (places_any _ ns h _ s1 (by rw [hn]; exact HC.out.1) (by omega)).mono ?_; rintro e V4 ⟨vq, rfl, Oq, b4⟩)
      have s4 := s1.keep b4
      have i8 := i7.keep b4
      have So := Oq.sr (by omega)
      have bw4 := ab_trans bw b4
      clear s1 i7 Oq b4 bw
      refine wp_region_held_drew (S := fun w' => Below V4.heap.size V4 w') (by kernel_rfl) (ab_drew (Below.refl _ _)) (fun hHeld => ?_)
      refine takeH (i := 0) (some 81) rfl rfl (by kernel_rfl) (by kernel_rfl) (by kernel_rfl) (fun _ _ _ h => h) (by rfl) (fun w hSw => by (try dsimp only at hSw); go_simp; try rfl) hHeld ?_
      go_frame
      refine takeH (i := 2) (some 83) rfl rfl (by kernel_rfl) (by kernel_rfl) (by kernel_rfl) (fun _ _ _ h => h) (by rfl) (fun w hSw => by (try dsimp only at hSw); go_simp; try rfl) hHeld ?_
      go_frame
      refine takeH (i := 3) (some 84) rfl rfl (by kernel_rfl) (by kernel_rfl) (by kernel_rfl) (fun _ _ _ h => h) (by rfl) (fun w hSw => by (try dsimp only at hSw); go_simp; try rfl) hHeld ?_
      go_frame
      refine takeH (i := 4) (some 85) rfl rfl (by kernel_rfl) (by kernel_rfl) (by kernel_rfl) (fun _ _ _ h => h) (by rfl) (fun w hSw => by (try dsimp only at hSw); go_simp; try rfl) hHeld ?_
      go_frame
      refine takeH (i := 5) (some 86) rfl rfl (by kernel_rfl) (by kernel_rfl) (by kernel_rfl) (fun _ _ _ h => h) (by rfl) (fun w hSw => by (try dsimp only at hSw); (refine (?_ : _ = Result.ok (Next.value (Value.int .i64 (h : Int))) _); go_simp; try rfl)) hHeld ?_
      go_frame
      refine takeH (i := 6) (some 87) rfl rfl (by kernel_rfl) (by kernel_rfl) (by kernel_rfl) (fun _ _ _ h => h) (by rfl) (fun w hSw => by (try dsimp only at hSw); (refine (?_ : _ = Result.ok (Next.value (Value.int .i64 (H2 : Int))) _); go_simp; try rfl)) hHeld ?_
      go_frame
      refine takeH (i := 7) (some 88) rfl rfl (by kernel_rfl) (by kernel_rfl) (by kernel_rfl) (fun _ _ _ h => h) (by rfl) (fun w hSw => by (try dsimp only at hSw); exact (sli_h_run rfl rfl rfl rfl HC.out.2.2)) hHeld ?_
      go_frame
      rw [HE7.out]
      refine wpAnyH_ready (rs := [1]) (by kernel_rfl) (by simp) (AllReadyH.cons rfl (fun K hK => ?_) AllReadyH.nil)
      go_simp
      refine (spread_ps _ (plsL ns h) _ (So.keep hHeld) (by rw [plsL_len]; have := HC.out; omega)).mono ?_
      rw [HQ.out]
      rintro e V5 ⟨v5, rfl, O5, b5⟩
      show K _ _
      refine hK.out _ _ (ab_trans hHeld b5) (fun hHeld => ?_)
      clear hK K b5
      refine wpAnyH_ready (rs := [8]) (by kernel_rfl) (by simp) (AllReadyH.cons rfl (fun K hK => ?_) AllReadyH.nil)
      go_simp
      refine (ints_is _ _ (ns.take H2) (ns.take H2) _ O5.is (i8.keep hHeld) HT.out HT.out).mono ?_
      rintro e V6 ⟨he, b6⟩
      rw [decide_eq_true rfl] at he
      subst he
      show K _ _
      refine hK.out _ _ (ab_trans hHeld b6) (fun hHeld => ?_)
      clear hK K b6
      refine takeH (i := 9) (some 90) rfl rfl (by kernel_rfl) (by kernel_rfl) (by kernel_rfl) (fun _ _ _ h => h) (by rfl) (fun w hSw => by (try dsimp only at hSw); go_simp; try rfl) hHeld ?_
      go_frame
      refine wpAnyH_done (by kernel_rfl) ?_ _
      have s6 := s4.keep hHeld
      have bw6 := ab_trans bw4 hHeld
      clear s4 i8 So bw4 hHeld O5 hml hwh hdv HQ HT HC
      go_upto_region 18 with fail
      go_upto_region 19 with (first
        | (refine bs_own rfl rfl [0, 0, 0] (by simp only [List.map_toArray, List.map_cons, List.map_nil]; rfl) (isl3 _ _ _ _) rfl (by decide) ?_; intro V9 hN9 b9 z9)
        | (at_builtin; refine app_i V6 rfl rfl rfl (own_keep O8 b9) rfl (own_is hN9) rfl (by show 0 + n + 3 ≤ _; omega) (ab_trans b8 b9) ?_; intro vA VA hownA hnilA bA hgrA hatA)
        | (at_builtin; refine app_i V6 (l := []) rfl rfl rfl (own_empty V6 V6 3 1 (Nat.le_refl _)) rfl (s6.keep (ab_alloc (Below.refl _ _) _)) hn (by omega) (ab_alloc (Below.refl _ _) _) ?_; intro v8 V8 O8 nn8 b8 gr8 at8))
      have iA := own_is hownA
      rw [List.nil_append] at iA
      have sA := s6.keep bA
      have bwA := ab_trans bw6 bA
      clear hownA hnilA hgrA hatA O8 nn8 b8 gr8 at8 hN9 b9 z9 bA s6 bw6
      obtain ⟨qA, cA, eA⟩ := iA.form
      subst eA
      obtain ⟨gA, oA, rfl, hgA, hrA⟩ := iA.at (by simp)
      have hat := app3_at ns
      have hlA := iA.len
      have HBl : Hid (∀ w', Is w' (.slice q1 n c1) ns → Calls Try.prog 26 #[.slice q1 n c1] w' fun e w'' => e = .returned (.agg (three (ns.getD 0 0) (ns.getD 1 0) (ns.getD 2 0))) ∧ Below w'.heap.size w' w'') := fun w' h => ballot_any _ ns w' h
      have HN3 : Hid ((ns ++ [0, 0, 0]).length = n + 3) := by show _ = _; rw [List.length_append, hn]; rfl
      generalize ns.getD 0 0 = a0 at *
      generalize ns.getD 1 0 = a1 at *
      generalize ns.getD 2 0 = a2 at *
      have r0 : ∀ w', Below VA.heap.size VA w' → w'.cell? ⟨gA, oA, none⟩ = some (.int .i64 a0) := fun w' hb' => (hb'.cell (p := ⟨gA, oA, none⟩) hgA).trans (hrA 0 _ hat.1)
      have r1 : ∀ w', Below VA.heap.size VA w' → w'.cell? ⟨gA, oA + 1, none⟩ = some (.int .i64 a1) := fun w' hb' => (hb'.cell (p := ⟨gA, oA + 1, none⟩) hgA).trans (hrA 1 _ hat.2.1)
      have r2 : ∀ w', Below VA.heap.size VA w' → w'.cell? ⟨gA, oA + 2, none⟩ = some (.int .i64 a2) := fun w' hb' => (hb'.cell (p := ⟨gA, oA + 2, none⟩) hgA).trans (hrA 2 _ hat.2.2)
      generalize (ns ++ [0, 0, 0]).length = N3 at *
      have hN3 := HN3.out
      have k0 : 0 < N3 := by omega
      have k1 : 1 < N3 := by omega
      have k2 : 2 < N3 := by omega
      have k0i : (0 : Int) < (N3 : Int) := by omega
      have k1i : (1 : Int) < (N3 : Int) := by omega
      have k2i : (2 : Int) < (N3 : Int) := by omega
      clear hN3 HN3 hrA hat iA hlA
      refine wp_region_held_drew (S := fun w' => Below VA.heap.size VA w') (by kernel_rfl) (ab_drew (Below.refl _ _)) (fun hHeld => ?_)
      refine takeH (i := 0) (some 96) rfl rfl (by kernel_rfl) (by kernel_rfl) (by kernel_rfl) (fun _ _ _ h => h) (by rfl) (fun w hSw => by (try dsimp only at hSw); go_simp; try rfl) hHeld ?_
      go_frame
      refine takeH (i := 2) (some 98) rfl rfl (by kernel_rfl) (by kernel_rfl) (by kernel_rfl) (fun _ _ _ h => h) (by rfl) (fun w hSw => by (try dsimp only at hSw); go_simp; try rfl) hHeld ?_
      go_frame
      refine takeH (i := 3) (some 99) rfl rfl (by kernel_rfl) (by kernel_rfl) (by kernel_rfl) (fun _ _ _ h => h) (by rfl) (fun w hSw => by (try dsimp only at hSw); go_simp; try rfl) hHeld ?_
      go_frame
      refine takeH (i := 4) (some 100) rfl rfl (by kernel_rfl) (by kernel_rfl) (by kernel_rfl) (fun _ _ _ h => h) (by rfl) (fun w hSw => by (try dsimp only at hSw); (have hr := r0 _ hSw; go_simp; try rfl)) hHeld ?_
      go_frame
      refine takeH (i := 5) (some 101) rfl rfl (by kernel_rfl) (by kernel_rfl) (by kernel_rfl) (fun _ _ _ h => h) (by rfl) (fun w hSw => by (try dsimp only at hSw); go_simp; try rfl) hHeld ?_
      go_frame
      refine takeH (i := 6) (some 102) rfl rfl (by kernel_rfl) (by kernel_rfl) (by kernel_rfl) (fun _ _ _ h => h) (by rfl) (fun w hSw => by (try dsimp only at hSw); go_simp; try rfl) hHeld ?_
      go_frame
      refine takeH (i := 7) (some 103) rfl rfl (by kernel_rfl) (by kernel_rfl) (by kernel_rfl) (fun _ _ _ h => h) (by rfl) (fun w hSw => by (try dsimp only at hSw); (have hr := r1 _ hSw; go_simp; try rfl)) hHeld ?_
      go_frame
      refine takeH (i := 8) (some 104) rfl rfl (by kernel_rfl) (by kernel_rfl) (by kernel_rfl) (fun _ _ _ h => h) (by rfl) (fun w hSw => by (try dsimp only at hSw); go_simp; try rfl) hHeld ?_
      go_frame
      refine takeH (i := 9) (some 105) rfl rfl (by kernel_rfl) (by kernel_rfl) (by kernel_rfl) (fun _ _ _ h => h) (by rfl) (fun w hSw => by (try dsimp only at hSw); go_simp; try rfl) hHeld ?_
      go_frame
      refine takeH (i := 10) (some 106) rfl rfl (by kernel_rfl) (by kernel_rfl) (by kernel_rfl) (fun _ _ _ h => h) (by rfl) (fun w hSw => by (try dsimp only at hSw); (have hr := r2 _ hSw; go_simp; try rfl)) hHeld ?_
      go_frame
      refine takeH (i := 11) (some 107) rfl rfl (by kernel_rfl) (by kernel_rfl) (by kernel_rfl) (fun _ _ _ h => h) (by rfl) (fun w hSw => by (try dsimp only at hSw); go_simp; try rfl) hHeld ?_
      go_frame
      refine wpAnyH_ready (rs := [1]) (by kernel_rfl) (by simp) (AllReadyH.cons rfl (fun K hK => ?_) AllReadyH.nil)
      go_simp
      refine (HBl.out _ (sA.keep hHeld)).mono ?_
      rintro e V9 ⟨rfl, b9⟩
      show K _ _
      refine hK.out _ _ (ab_trans hHeld b9) (fun hHeld => ?_)
      clear hK K b9
      refine takeH (i := 12) (some 108) rfl rfl (by kernel_rfl) (by kernel_rfl) (by kernel_rfl) (fun _ _ _ h => h) (by rfl) (fun w hSw => by (try dsimp only at hSw); go_simp; try rfl) hHeld ?_
      go_frame
      refine takeH (i := 13) (some 4) rfl rfl (by kernel_rfl) (by kernel_rfl) (by kernel_rfl) (fun _ _ _ h => h) (by rfl) (fun w hSw => by (try dsimp only at hSw); go_simp; try rfl) hHeld ?_
      go_frame
      refine wpAnyH_done (by kernel_rfl) ?_ _
      go_wp2_with fail
      go_ret
      exact ⟨rfl, ab_trans bwA hHeld⟩
    · obtain ⟨x, hx⟩ : ∃ x, ps[j]? = some x := ⟨ps[j], List.getElem?_eq_getElem (by omega)⟩
      obtain rfl := hp0 (by omega)
      obtain rfl := hpp (by omega)
      obtain rfl := hps (by have := HM.out; omega)
      have hbw := ab_trans bb3 hb
      have hM := HM.out
      have hr1 : wr.rangeAt g0 (o0 + j * 2) (AG 2 k64 x).toList := fun i v hv => (hbw.cell (p := ⟨g0, _, none⟩) (hg0 (by omega))).trans (hr0 j x hx i v hv)
      have hr2 : wr.rangeAt gp (op + j * 2) (AG 2 k64 x).toList := fun i v hv => (hb.cell (p := ⟨gp, _, none⟩) (hgp (by omega))).trans (hrp j x hx i v hv)
      obtain ⟨x0, x1⟩ := cells_pl hr1
      obtain ⟨y0, y1⟩ := cells_pl hr2
      obtain ⟨J, hJ⟩ : ∃ J, J = 2 * j := ⟨_, rfl⟩
      have hat := HAt.out j x hx
      rw [← hJ] at hat
      have z0 : wr.cell? ⟨gs, os + J, none⟩ = some (.int .i64 (x 0)) := (hb.cell (p := ⟨gs, _, none⟩) (hgs (by omega))).trans (hrs J _ hat.1)
      have z1 : wr.cell? ⟨gs, os + (J + 1), none⟩ = some (.int .i64 (x 1)) := (hb.cell (p := ⟨gs, _, none⟩) (hgs (by omega))).trans (hrs (J + 1) _ hat.2)
      have h2 : (2 : Int) * (j : Int) = (J : Int) := by omega
      have hJM : J < M := by omega
      have hJM1 : J + 1 < M := by omega
      have hJi : (J : Int) < (M : Int) := by omega
      have hJi1 : (J : Int) + 1 < (M : Int) := by omega
      have hjm : j < m := by omega
      have hji : (j : Int) < (m : Int) := by omega
      clear hJ hr1 hr2 hat hrs hrp hr0 hp0 hpp hps HAt hM hx
      go_upto_region 12 with fail
      go_quiet (fail)
      go_wp2_with fail
      exact ⟨⟨j + 1, by omega, rfl, ab_drewN hb _⟩, by simp only [intOf]; omega⟩

theorem own : ownKnob Try.prog.godebug = none := by kernel_rfl
theorem laidOut : laidOutB Try.prog = true := by kernel_rfl

set_option maxRecDepth 100000 in
theorem lifted (os : Os) (started : os.Started) (H : Type) (enc : TypeId × Value → H) :
    ReturnsInHanded {} Try.checked os 7 .any (Rows.notePlacesSpec.pre6 enc Try.prog Try.f7 Rows.notePlacesRow.domain false) (Rows.notePlacesSpec.post enc Try.prog Try.f7 false true false false) := by
  refine returnsInHanded_of_change (C := Try.checked) own started (by kernel_rfl) Try.func7
    (ChangeSpec.witness6 (enc := enc) (C := Try.checked) false ⟨#[], #[.slice none 0 0, .slice none 0 0], []⟩ 8 (by kernel_rfl) (by kernel_rfl) (by kernel_rfl) (by kernel_rfl)) ?_
  intro W base args ds gs before hval0 hW hcnd _
  have hval : ∀ (j : Nat) t v, Try.f7.params[j]? = some t → args[j]? = some v → Value.okWide Try.prog W .any base t v := hval0
  have hW' := hW
  obtain ⟨p, q, hA0, hV, rfl, hfz, hnd⟩ := hW
  have hA : DataW.TrodAll enc Try.prog W 0 (fun _ => true) true Try.f7.params.toList args.toList ds p := hA0
  rw [Try.params7] at hA hval
  obtain ⟨v0, vs0, d0, ds0, p0, q0, hargs, rfl, rfl, h0, r0⟩ := trodAll_cons hA
  obtain ⟨v1, vs1, d1, ds1, p1, q1, rfl, rfl, rfl, h1, r1⟩ := trodAll_cons r0
  obtain ⟨rfl, rfl, rfl⟩ := trodAll_nil r1
  obtain rfl : args = #[v0, v1] := by cases args; simp_all
  obtain ⟨rfl, rfl⟩ := trodVars_none hV
  have k0 := h0
  have lt0 : ∀ x ∈ p0, x.block < W.heap.size := by obtain ⟨m, hm⟩ := k0; exact DataW.trod_lt m _ _ _ hm
  have k1 := h1
  have lt1 : ∀ x ∈ p1, x.block < W.heap.size := by obtain ⟨m, hm⟩ := k1; exact DataW.trod_lt m _ _ _ hm
  obtain ⟨l0_, S0_, B0_⟩ := open_places (hval 0 49 v0 rfl rfl) h0
  obtain ⟨l1_, S1_, B1_⟩ := open_nums (hval 1 22 v1 rfl rfl) h1
  clear hA0 hval0
  refine (walk v0 l0_ S0_ B0_ v1 l1_ S1_ B1_).mono fun e W' ⟨he, bel⟩ => ?_
  subst he
  exact ⟨_, rfl, _, _, _, [], _, [], hW', trodAll_mk1 (shut_bool Try.underlying4 _), (trodAll_cons_mk (Below.trod laidOut (by kernel_rfl) (of_decide_eq_true (by kernel_rfl)) k0 bel lt0) (trodAll_cons_mk (Below.trod laidOut (by kernel_rfl) (of_decide_eq_true (by kernel_rfl)) k1 bel lt1) trodAll_mk0)), rfl, bel.frame _, fun h => by cases h⟩

theorem over : Rows.notePlacesRow.holds Try.pinned (OpenSpec.ofChange Rows.notePlacesSpec) :=
  OpenClaim.holds_of_wide 7 Try.f7 rfl rfl rfl rfl rfl rfl rfl ⟨rfl, rfl, rfl, rfl, rfl⟩ rfl rfl rfl rfl rfl (by kernel_rfl) Try.func7 (by kernel_rfl)
    (of_decide_eq_true (by kernel_rfl)) (by unfold Func.isWrapper; first | (rw [if_pos (by decide +kernel)]; kernel_rfl) | (rw [if_neg (by decide +kernel)]; exact ⟨rfl, rfl⟩))
    (fun os started H enc _ => lifted os started H enc)

theorem proved : Rows.NotePlacesSaid := over
end Go.Proofs.Ytjbhicjnnghjjaa.notePlaces
namespace Go.Proofs.Ytjbhicjnnghjjaa
theorem notePlaces_holds : Rows.NotePlacesSaid := notePlaces.proved
#print axioms notePlaces_holds
end Go.Proofs.Ytjbhicjnnghjjaa
