/-
  Basin's List, over what ahead answers.
-/
import Derived.Test.YtoeilckeebojmaaPk39
import Derived.Lib.MinMax
import Derived.Test.YtoeilckeebojmaaPk06
import Derived.Test.YtoeilckeebojmaaPk18
namespace Go.Proofs.Ytoeilckeebojmaa
open Go.RowKit Go.Maps
set_option linter.unusedVariables false
set_option maxRecDepth 100000

abbrev Ent := (Int × Int) × (Nat → Int)
def entA (x : Ent) : Array Value := (([.int .i64 x.1.1, .int .i64 x.1.2] : List Value) ++ (CA x.2).toList).toArray
theorem entA_size (x : Ent) : (entA x).size = 76 := by simp [entA, CA_size]
def EE : En Ent := ⟨76, fun x => (entA x).toList, fun x => by rw [Array.length_toList, entA_size], fun x u hu => by
  have h1 : u ∈ ([.int .i64 x.1.1, .int .i64 x.1.2] : List Value) ++ (CA x.2).toList := by simpa [entA] using hu
  rcases List.mem_append.1 h1 with h1 | h1
  · simp at h1; rcases h1 with rfl | rfl <;> rfl
  · exact List.all_eq_true.1 (by rw [Array.all_toList]; exact CA_one x.2) u h1, by omega⟩
def zEnt : Ent := ((0, 0), zc)
theorem infoEntB : (Try.prog.info? 107).map (fun i => (i.zero, i.size, i.bytes)) = some (some (.agg (entA zEnt)), 76, 608) := by kernel_rfl
theorem sizeEnt (x : Ent) : (Try.prog.info? 107).map (·.size) = some (entA x).size := by rw [entA_size]; kernel_rfl
theorem built_entB (x y : Int) (c : Nat → Int) : Try.prog.built 107 [(0, .agg #[.int .i64 x, .int .i64 y]), (1, .agg (CA c))] = some (entA ((x, y), c)) := by kernel_rfl
/-- The entries so far, and zeros behind them. -/
def mixE (L : List Ent) (c k : Nat) : List Ent := L.take k ++ List.replicate (c - k) zEnt
theorem mixE_len {L : List Ent} {c k : Nat} (h : L.length = c) (hk : k ≤ c) : (mixE L c k).length = c := by
  unfold mixE; rw [List.length_append, List.length_take, List.length_replicate]; omega
theorem mixE_set {L : List Ent} {c k : Nat} {x : Ent} (h : L.length = c) (hx : L[k]? = some x) : (mixE L c k).set k x = mixE L c (k + 1) := by
  have hk := (List.getElem?_eq_some_iff.1 hx).1
  have hl : (L.take k).length = k := by rw [List.length_take]; omega
  unfold mixE
  rw [List.set_append_right _ _ (by omega), hl, Nat.sub_self, List.take_add_one, hx, show c - k = (c - (k + 1)) + 1 by omega, List.replicate_succ, List.set_cons_zero]
  simp
/-- What List answers of places. -/
def entL (S : Bsn) (lane : Int) (P : List (Int × Int)) (c : Nat) : List Ent := (P.take c).map fun p => (p, S.cv (lane, p))
theorem entL_at {S : Bsn} {lane : Int} {P : List (Int × Int)} {c k : Nat} {p : Int × Int} (hk : k < c) (hp : P[k]? = some p) : (entL S lane P c)[k]? = some (p, S.cv (lane, p)) := by
  unfold entL
  rw [List.getElem?_map, List.getElem?_take_of_lt hk, hp]
  rfl
theorem entL_len {S : Bsn} {lane : Int} {P : List (Int × Int)} {c : Nat} (hc : c ≤ P.length) : (entL S lane P c).length = c := by
  unfold entL; rw [List.length_map, List.length_take]; omega
theorem balist_no {B : Nat} {K : Bkk} {S : Bsn} (n : Int) (p : Int × Int) (mo : Int) (w : World) (h : Bq w B K S) (hn : hasN n S.ba.length = false ∨ mo < 1) :
    Calls Try.prog 24 #[bptr K, .int .i64 n, Plc p.1 p.2, .int .i64 mo] w fun e w' => e = .returned (.slice none 0 0) ∧ Below w.heap.size w w' := by
  obtain ⟨A, hE, hX, hw⟩ := blk1 w #[.int .i64 p.1, .int .i64 p.2] 38
  have HS := bhasL_any n A (h.keep hw)
  clear h
  obtain ⟨b, m, gf, cf, gb, cb, vr⟩ := K
  obtain ⟨p0, p1⟩ := p
  try dsimp only at *
  cases hb : hasN n S.ba.length
  · rw [hb] at HS
    go_enter Try.func24, Try.ntmps24
    go_wp2_with (go_at_call 45; refine HS.mono ?_; rintro e W ⟨rfl, rfl⟩)
    go_ret
    exact ⟨rfl, hw⟩
  · rw [hb] at HS hn
    have hm : mo < 1 := by rcases hn with h | h; cases h; exact h
    go_enter Try.func24, Try.ntmps24
    go_wp2_with (go_at_call 45; refine HS.mono ?_; rintro e W ⟨rfl, rfl⟩)
    go_ret
    exact ⟨rfl, hw⟩
theorem balist_nil (n : Int) (p : Int × Int) (mo : Int) (w : World) :
    Calls Try.prog 24 #[.pointer none, .int .i64 n, Plc p.1 p.2, .int .i64 mo] w fun e w' => e = .returned (.slice none 0 0) ∧ Below w.heap.size w w' := by
  obtain ⟨A, hE, hX, hw⟩ := blk1 w #[.int .i64 p.1, .int .i64 p.2] 38
  obtain ⟨p0, p1⟩ := p
  try dsimp only at *
  go_enter Try.func24, Try.ntmps24
  go_wp2_with (go_at_call 45; refine (bhasL_nil _ _).mono ?_; rintro e W ⟨rfl, rfl⟩)
  go_ret
  exact ⟨rfl, hw⟩
set_option maxHeartbeats 2000000 in
theorem balist_of {B : Nat} {K : Bkk} {S : Bsn} (i : Nat) (pt : Int × Int) (mo : Int) (P : List (Int × Int)) (w : World) (h : Bq w B K S) (hi : i < S.ba.length) (hm : 1 ≤ mo) (hP : P.length ≤ 2000) (hk : ∀ p ∈ P, KyOk ((i : Int), p))
    (hA : ∀ W, Below w.heap.size w W → Calls Try.prog 48 #[bptr K, .int .i64 (i : Int), Plc pt.1 pt.2] W fun e w' => ∃ v, e = .returned v ∧ EO E2 38 w' w.heap.size v P ∧ Below W.heap.size W w') :
    Calls Try.prog 24 #[bptr K, .int .i64 (i : Int), Plc pt.1 pt.2, .int .i64 mo] w fun e w' => ∃ v, e = .returned v ∧ EO EE 107 w' w.heap.size v (entL S (i : Int) P (min mo (P.length : Int)).toNat) ∧ Below w.heap.size w w' := by
  obtain ⟨A, hE, hX, hw⟩ := blk1 w #[.int .i64 pt.1, .int .i64 pt.2] 38
  have hB := h.keep hw
  have HS := bhasL_any (i : Int) A hB
  have hh : hasN (i : Int) S.ba.length = true := decide_eq_true (by omega)
  rw [hh] at HS
  have HA := hA A hw
  have HL : Hid (∀ V k, KyOk k → Below A.heap.size A V → (Instr.lookup 91 (.map (some K.m)) (kyV k) false).run Try.prog V = .ok (.agg (CA (S.cv k))) V) := fun V k hk hb => (hB.ce.keep hb).look hk (h.ok.cz k) false
  have HC : Hid (∀ V, Below A.heap.size A V → V.cell? ⟨K.b, 5, none⟩ = some (.map (some K.m))) := fun V hb => (hB.cells V hb).2.2.2.2.2
  have y0 : A.cell? ⟨w.heap.size, 0, none⟩ = some (.int .i64 pt.1) := hX.at rfl
  have y1 : A.cell? ⟨w.heap.size, 1, none⟩ = some (.int .i64 pt.2) := hX.at rfl
  clear h hB hh hA hX
  obtain ⟨c, hc⟩ : ∃ c : Nat, (min mo (P.length : Int)).toNat = c := ⟨_, rfl⟩
  have hcm : min mo (P.length : Int) = (c : Int) := by omega
  have hcP : c ≤ P.length := by omega
  rw [hc]
  clear hc
  obtain ⟨b, m, gf, cf, gb, cb, vr⟩ := K
  obtain ⟨p0, p1⟩ := pt
  try dsimp only at *
  generalize hnP : P.length = n at *
  go_enter Try.func24, Try.ntmps24
  go_upto_region 4 with (first
    | (go_at_call 45; refine HS.mono ?_; rintro e A ⟨rfl, rfl⟩)
    | (go_at_call 48; refine HA.mono ?_; rintro e W1 ⟨v1, rfl, hO1, b1⟩))
  obtain ⟨q1, c1, e1⟩ := hO1.form
  rw [hnP] at e1
  subst e1
  have HO1 : Hid (EO E2 38 W1 w.heap.size (.slice q1 n c1) P) := hO1
  have hcm' : Hid (min mo (n : Int) = (c : Int)) := hcm
  clear HA HS hE y0 y1 hO1
  go_upto_region 5 with (at_make; refine mk_e (E := EE) rfl zEnt rfl Try.underlying77 infoEntB rfl (c := c) rfl rfl (by first | rfl | exact hcm) (by omega) (by omega) ?_; intro W2 hB2 b2)
  clear hcm
  have hR0 : Rw EE 107 W2 W1.heap.size c (mixE (entL S (i : Int) P c) c 0) := by
    have h1 : mixE (entL S (i : Int) P c) c 0 = List.replicate c zEnt := by unfold mixE; simp
    rw [h1]
    exact ⟨by rw [List.length_replicate]; exact Nat.le_refl _, by unfold maxLen; omega, _, hB2, by simp [EE.fl_len], by simp only []; rw [List.length_replicate]; exact List.take_of_length_le (by rw [EE.fl_len, List.length_replicate]; exact Nat.le_refl _)⟩
  have hA2 := ab_trans b1 b2
  have hO2 := HO1.out.keep b2
  have HG1 : Hid (A.heap.size ≤ W1.heap.size) := b1.size
  have HLe : Hid ((entL S (i : Int) P c).length = c) := entL_len (by omega)
  have hgL : Hid (∀ k p, k < c → P[k]? = some p → (entL S (i : Int) P c)[k]? = some (p, S.cv ((i : Int), p))) := fun k p h1 h2 => entL_at h1 h2
  obtain ⟨L, hLL⟩ : ∃ L, entL S (i : Int) P c = L := ⟨_, rfl⟩
  rw [hLL] at hR0 HLe hgL
  have HLL : Hid (entL S (i : Int) P c = L) := hLL
  clear hLL
  generalize W1.heap.size = g at *
  clear hB2 b2 HO1
  go_wp2_with fail
  go_loopw [32] (fun z wr => ∃ k : Nat, k ≤ c ∧ z = .int .i64 (k : Int) ∧ Rw EE 107 wr g c (mixE L c k) ∧ EO E2 38 wr w.heap.size (.slice q1 n c1) P ∧ Below A.heap.size A wr) (fun z _ => c - (intOf z).toNat)
  case atStart => exact ⟨0, by omega, rfl, hR0, hO2, hA2⟩
  case round =>
    clear hR0 hO2 hA2
    obtain ⟨k, hkc, rfl, hR, hO, hA⟩ := hrel
    by_cases e : k = c
    · subst e
      have HR : Hid (EO EE 107 wr w.heap.size (.slice (some ⟨g, 0, none⟩) k k) L) := by
        have h1 : mixE L k k = L := by unfold mixE; rw [List.take_of_length_le (by have := HLe.out; omega), Nat.sub_self]; simp
        rw [h1] at hR
        have h2 := hR.eo (B := w.heap.size) (Nat.le_trans hw.size HG1.out) (i := k) (by have := HLe.out; omega)
        rw [List.take_of_length_le (by have := HLe.out; omega)] at h2
        exact h2
      go_wp2_with fail
      go_ret
      exact ⟨_, rfl, by rw [HLL.out]; exact HR.out, ab_trans hw hA⟩
    · obtain ⟨p, hp⟩ : ∃ p, P[k]? = some p := ⟨P[k]'(by omega), List.getElem?_eq_getElem (by omega)⟩
      have hkn : (k : Int) < (n : Int) := by omega
      have hki : (k : Int) < (c : Int) := by omega
      have HX : Hid (L[k]? = some (p, S.cv ((i : Int), p))) := hgL.out k p (by omega) hp
      have hkp := hk p (List.mem_of_getElem? hp)
      obtain ⟨qz, capz, gz, offz, ez, -, -, hpz, hcz⟩ := hO.er.at
      rw [hnP] at ez
      injection ez with ez1 ez2 ez3
      subst ez1
      subst ez3
      clear ez2
      rw [hnP] at hpz
      obtain ⟨rfl, hgz⟩ := hpz (by omega)
      have z0 := hcz k p hp 0 _ rfl
      have z1 := hcz k p hp 1 _ rfl
      rw [Nat.add_zero, show E2.k = 2 from rfl] at z0
      rw [show E2.k = 2 from rfl] at z1
      clear hcz hpz hp
      obtain ⟨pa, pb⟩ := p
      try dsimp only at z0 z1
      obtain ⟨A2, hE2, hX2, hw2⟩ := blk1 wr #[.int .i64 pa, .int .i64 pb] 38
      go_upto_region 9 with fail
      have hR2 := hR.keep hw2
      have hO2 := hO.keep hw2
      have hA2 := ab_trans hA hw2
      have hcv : ∀ V, Below A2.heap.size A2 V → (Instr.lookup 91 (.map (some m)) (.agg #[.int .i64 (i : Int), .int .i64 pa, .int .i64 pb]) false).run Try.prog V = .ok (.agg (CA (S.cv ((i : Int), pa, pb)))) V := fun V hb => HL.out V ((i : Int), pa, pb) hkp (ab_trans hA2 hb)
      have HC2 : Hid (∀ V, Below A2.heap.size A2 V → V.cell? ⟨b, 5, none⟩ = some (.map (some m))) := fun V hb => HC.out V (ab_trans hA2 hb)
      have HX2 : Hid (∀ V, Below A2.heap.size A2 V → V.cell? ⟨wr.heap.size, 0, none⟩ = some (.int .i64 pa) ∧ V.cell? ⟨wr.heap.size, 1, none⟩ = some (.int .i64 pb)) := fun V hb => ⟨(hX2.keep hb).at rfl, (hX2.keep hb).at rfl⟩
      generalize S.cv ((i : Int), pa, pb) = cc at *
      clear hE2 z0 z1 hR hO hA hX2 hw2
      refine region_L 13 (S := fun w' => Below A2.heap.size A2 w') (by kernel_rfl) (ab_drew (Below.refl _ _)) (fun hHeld => ?_)
      refine takeP (i := 0) (some 39) (by rfl) rfl rfl (by kernel_rfl) (by kernel_rfl) (by kernel_rfl) (fun _ _ _ h => h) (by rfl) (fun w => by go_simp; try rfl) hHeld ?_
      go_frame
      refine takeP (i := 1) (some 40) (by rfl) rfl rfl (by kernel_rfl) (by kernel_rfl) (by kernel_rfl) (fun _ _ _ h => h) (by rfl) (fun w => by go_simp; try rfl) hHeld ?_
      go_frame
      refine takeL (i := 2) [13] (some 41) (by rfl) rfl rfl (by kernel_rfl) (by kernel_rfl) (by kernel_rfl) (by kernel_rfl) (fun _ _ _ h => h) (by rfl) (fun w hSw => by (try dsimp only at hSw); (obtain ⟨q0, q1⟩ := HX2.out _ hSw; go_simp; try rfl)) hHeld ?_
      go_frame
      refine takeP (i := 3) (some 42) (by rfl) rfl rfl (by kernel_rfl) (by kernel_rfl) (by kernel_rfl) (fun _ _ _ h => h) (by rfl) (fun w => by go_simp; try rfl) hHeld ?_
      go_frame
      refine takeP (i := 4) (some 43) (by rfl) rfl rfl (by kernel_rfl) (by kernel_rfl) (by kernel_rfl) (fun _ _ _ h => h) (by rfl) (fun w => by go_simp; try rfl) hHeld ?_
      go_frame
      refine takeP (i := 5) (some 44) (by rfl) rfl rfl (by kernel_rfl) (by kernel_rfl) (by kernel_rfl) (fun _ _ _ h => h) (by rfl) (fun w => by go_simp; try rfl) hHeld ?_
      go_frame
      refine takeL (i := 6) [13] (some 45) (by rfl) rfl rfl (by kernel_rfl) (by kernel_rfl) (by kernel_rfl) (by kernel_rfl) (fun _ _ _ h => h) (by rfl) (fun w hSw => by (try dsimp only at hSw); (have q5 := HC2.out _ hSw; go_simp; try rfl)) hHeld ?_
      go_frame
      refine takeP (i := 7) (some 46) (by rfl) rfl rfl (by kernel_rfl) (by kernel_rfl) (by kernel_rfl) (fun _ _ _ h => h) (by rfl) (fun w => by go_simp; try rfl) hHeld ?_
      go_frame
      refine takeL (i := 8) [13] (some 47) (by rfl) rfl rfl (by kernel_rfl) (by kernel_rfl) (by kernel_rfl) (by kernel_rfl) (fun _ _ _ h => h) (by rfl) (fun w hSw => by (try dsimp only at hSw); (obtain ⟨q0, q1⟩ := HX2.out _ hSw; go_simp; try rfl)) hHeld ?_
      go_frame
      refine takeP (i := 9) (some 48) (by rfl) rfl rfl (by kernel_rfl) (by kernel_rfl) (by kernel_rfl) (fun _ _ _ h => h) (by rfl) (fun w => by exact bd_run rfl (built_id (i : Int) pa pb) (by simp only [List.map_toArray, List.map_cons, List.map_nil]; rfl) _) hHeld ?_
      go_frame
      refine takeL (i := 10) [13] (some 49) (by rfl) rfl rfl (by kernel_rfl) (by kernel_rfl) (by kernel_rfl) (by kernel_rfl) (fun _ _ _ h => h) (by rfl) (fun w hSw => by (try dsimp only at hSw); exact lkW rfl rfl rfl (hcv _ hSw)) hHeld ?_
      go_frame
      refine takeP (i := 11) (some 50) (by rfl) rfl rfl (by kernel_rfl) (by kernel_rfl) (by kernel_rfl) (fun _ _ _ h => h) (by rfl) (fun w => by exact bd_run rfl (built_entB pa pb cc) (by simp only [List.map_toArray, List.map_cons, List.map_nil]; rfl) _) hHeld ?_
      go_frame
      refine takeL (i := 12) [13] (some 51) (by rfl) rfl rfl (by kernel_rfl) (by kernel_rfl) (by kernel_rfl) (by kernel_rfl) (fun _ _ _ h => h) (by rfl) (fun w hSw => by (try dsimp only at hSw); go_simp; try rfl) hHeld ?_
      go_frame
      have hR3 := hR2.keep hHeld
      have hlt : k < (mixE L c k).length := by rw [mixE_len HLe.out hkc]; omega
      refine anyL_ready (rs := [13]) (by kernel_rfl) (by simp) (AllL.last rfl (by kernel_rfl) (fun K hK => ?_))
      rw [if_pos (by rfl)]
      refine stEW (E := EE) none rfl rfl hR3 hlt ((pa, pb), cc) (entA ((pa, pb), cc)) rfl rfl (by first | rfl | (simp; rfl)) rfl (sizeEnt _) fun W5 hR5 C5 => ?_
      rw [mixE_set HLe.out HX.out] at hR5
      have hO5 : EO E2 38 W5 w.heap.size (.slice (some ⟨gz, offz, none⟩) n c1) P := own_chgT (hO2.keep hHeld) C5 (fun e => absurd ((own_kindR (hO2.keep hHeld) e).uniq (rw_kind hR3)) (by decide))
      have hA5 := ab_chg (ab_trans hA2 hHeld) C5 HG1.out
      refine hK.out _ _ ?_
      clear hK K
      refine anyL_done (by kernel_rfl) ?_
      clear hR2 hR3 hO2 hA2 hHeld C5 hcv HC2 HX2
      go_wp2_with fail
      go_roundw
      case rel => exact ⟨k + 1, by omega, by go_num, hR5, hO5, hA5⟩
      case measure => simp [intOf]; omega
end Go.Proofs.Ytoeilckeebojmaa
