/-
  estuarynum.Apart: true where each slice is its own; and what it leaves as it was.
  estuarynum.Apart at a list of slices that was just made.
  A diary's calls, one beside the other: what holds between them; Open with what lies apart; Apart.
  A diary and the document's one side by side.
-/
import Derived.Test.YtalbiggmmmkclaaPk10
import Derived.Test.YtalbiggmmmkclaaPk03
import Derived.Test.YtalbiggmmmkclaaPk15
namespace Go.Proofs.Ytalbiggmmmkclaa
open Go.RowKit
set_option linter.unusedVariables false

/-- These blocks are as they were. -/
structure By (D : Nat → Prop) (w w' : World) : Prop where
  size : w.heap.size ≤ w'.heap.size
  blk : ∀ k, D k → w'.heap[k]? = w.heap[k]?
theorem By.refl (D : Nat → Prop) (w : World) : By D w w := ⟨Nat.le_refl _, fun _ _ => rfl⟩
theorem By.keep {D : Nat → Prop} {w w' w'' : World} (h : By D w w') (hb : Below w'.heap.size w' w'') (hD : ∀ k, D k → k < w.heap.size) : By D w w'' :=
  ⟨Nat.le_trans h.size hb.size, fun k hk => (hb.block k (Nat.lt_of_lt_of_le (hD k hk) h.size)).trans (h.blk k hk)⟩
theorem By.grown {D : Nat → Prop} {w w' w'' : World} {row : Option Nat} (h : By D w w') (hg : w'.grownBy w'' row) (hr : ∀ g, row = some g → ¬ D g) (hD : ∀ k, D k → k < w.heap.size) : By D w w'' :=
  ⟨Nat.le_trans h.size hg.size, fun k hk => (hg.block k (Nat.lt_of_lt_of_le (hD k hk) h.size) (fun e => hr k e.symm hk)).trans (h.blk k hk)⟩
theorem By.set {D : Nat → Prop} {w w' : World} {g t : Nat} {x : Value} (h : By D w w') (hg : ¬ D g) : By D w (w'.setCell ⟨g, t, none⟩ x) := by
  have k := chg_set w' g t x
  exact ⟨by rw [k.size]; exact h.size, fun i hi => (k.other i (fun e => hg (by rw [← e]; exact hi))).trans (h.blk i hi)⟩
set_option maxRecDepth 100000 in
set_option maxHeartbeats 2000000 in
theorem apart2_any (D : Nat → Prop) (A : World) (gl off cap n : Nat) (V : Nat → Value) (C : Nat → List Nat) (w : World) (hA : Below A.heap.size A w) (hB : Bg w A.heap.size gl off n V C) (hn : n ≤ 200000) (hlen : ∀ j, j < n → (C j).length ≤ 110000) (hgl : gl < w.heap.size)
    (hsep : ∀ i j, i < n → j < n → i ≠ j → Sep (V i) (V j)) (hsg : ∀ j, j < n → Sep (.slice (some ⟨gl, off, none⟩) n cap) (V j)) (hD : ∀ k, D k → k < w.heap.size) (hDV : ∀ j, j < n → ∀ g, (V j).ownBlock = some g → ¬ D g) :
    Calls Try.prog 28 #[.slice (some ⟨gl, off, none⟩) n cap] w fun e w' => e = .returned (.bool true) ∧ Below A.heap.size A w' ∧ By D w w' := by
  obtain ⟨w0, hw0⟩ : ∃ w0, w0 = w := ⟨w, rfl⟩
  rw [← hw0] at hD
  have hBy : By D w0 w := by subst hw0; exact By.refl D _
  have HBYG : Hid (Calls Try.prog 28 #[.slice (some ⟨gl, off, none⟩) n cap] w (fun e w' => e = .returned (.bool true) ∧ Below A.heap.size A w' ∧ By D w0 w') → True) := fun _ => trivial
  clear HBYG
  suffices HS : Calls Try.prog 28 #[.slice (some ⟨gl, off, none⟩) n cap] w (fun e w' => e = .returned (.bool true) ∧ Below A.heap.size A w' ∧ By D w0 w') by subst hw0; exact HS
  clear hw0
  go_enter Try.func28, Try.ntmps28
  go_wp2_with fail
  go_loopw [15] (fun i wr => ∃ k : Nat, k ≤ n ∧ i = .int .i64 (k : Int) ∧ Bg wr A.heap.size gl off n V (cI C k 0) ∧ gl < wr.heap.size ∧ Below A.heap.size A wr ∧ By D w0 wr) (fun i _ => n - (intOf i).toNat)
  case atStart =>
    refine ⟨0, by omega, rfl, hB.same (fun j hj => ?_), hgl, hA, hBy⟩
    unfold cI
    rw [if_neg (by omega)]
    by_cases c : j = 0
    · subst c; rw [if_pos rfl, mix_zero]
    · rw [if_neg c]
  case round =>
    clear hB hA hgl hBy
    obtain ⟨k, hk, rfl, HB, hgl, hA, hBy⟩ := hrel
    by_cases c : k = n
    · have hki : ¬ (k : Int) < (n : Int) := by omega
      have HB2 := HB.same (fun j hj => show cI C k 0 j = mrk j (C j).length by unfold cI; rw [if_pos (by omega)])
      clear HB
      go_upto_region 11 with (refine bs_l0 A hA.size rfl rfl ?_; intro W1 hown1 hb1)
      have HG : Gr W1 A.heap.size (.slice (some ⟨gl, off, none⟩) n cap) (.slice (some ⟨wr.heap.size, 0, none⟩) 0 0) n 0 0 V (fun _ => .slice none 0 0) (fun j => (C j).length) :=
        ⟨fun j _ hj => (HB2.own j hj).keep hb1, fun j h => absurd h (by omega), fun j h => absurd h (by omega), fun j hj b hb => Nat.lt_of_lt_of_le ((HB2.own j hj).lt b hb).2 hb1.size, hsep, fun i j h => absurd h (by omega), fun i j h => absurd h (by omega),
          fun j hj => (sep_lt (fun b hb => ((HB2.own j hj).lt b hb).2) (fun b hb => by simp [Value.ownBlock] at hb; omega)).symm, fun j h => absurd h (by omega), hsg, fun j h => absurd h (by omega), fun b hb he => by simp [Value.ownBlock] at hb he; omega⟩
      have HR : ∀ j, j < n → W1.cell? ⟨gl, off + j, none⟩ = some (V j) := fun j hj => keep_cell hb1 (HB2.row j hj) hgl
      have hgl1 := Nat.lt_of_lt_of_le hgl hb1.size
      have hA1 := ab_trans hA hb1
      have hBy1 := hBy.keep hb1 hD
      have Hy1 : ∀ g, (Value.slice (some ⟨wr.heap.size, 0, none⟩) 0 0).ownBlock = some g → ¬ D g := fun g hg hd => by
        have e : wr.heap.size = g := by simpa [Value.ownBlock] using hg
        have := hD g hd
        have := hBy.size
        omega
      clear HB2 hb1 hgl hA hsg hsep hBy
      go_wp2_with fail
      go_loopw [6, 40] (fun y i wr' => ∃ (k : Nat) (U : Nat → Value) (us : List Value), k ≤ n ∧ i = .int .i64 (k : Int) ∧ Gr wr' A.heap.size (.slice (some ⟨gl, off, none⟩) n cap) y n k k V U (fun j => (C j).length) ∧ wr'.ownsRow A.heap.size 39 1 y k us ∧ (∀ j, j < k → us[j]? = some (U j)) ∧ (∀ j, j < n → wr'.cell? ⟨gl, off + j, none⟩ = some (V j)) ∧ gl < wr'.heap.size ∧ Below A.heap.size A wr' ∧ By D w0 wr' ∧ (∀ g, y.ownBlock = some g → ¬ D g)) (fun _ i _ => n - (intOf i).toNat)
      case atStart => exact ⟨0, _, [], by omega, rfl, HG, hown1, fun j h => absurd h (by omega), HR, hgl1, hA1, hBy1, Hy1⟩
      case round =>
        clear HG hown1 HR hgl1 hA1 c hki hk hBy1 Hy1
        obtain ⟨k, U, us, hk, rfl, HG, hown, HU, HR, hgl, hA, hBy, Hy⟩ := hrel
        have HyH : Hid (∀ g, u6.ownBlock = some g → ¬ D g) := Hy
        clear Hy
        by_cases c : k = n
        · have hki : ¬ (k : Int) < (n : Int) := by omega
          obtain ⟨h1, qy, gy, capy, ey, hpy, hgy, -, -, hcy, hmy, hcells, -⟩ := own_open hown (by omega)
          subst ey
          have HUc : Hid (∀ j, j < k → wr.cell? ⟨gy, j, none⟩ = some (U j)) := fun j hj => hcells j _ (HU j hj)
          have HUs : Hid (∀ j, j < k → Sl wr (U j) (mrk j ((C j).length + 10))) := fun j hj => (HG.grw j hj).sl
          have HVs : Hid (∀ j, j < n → Sl wr (V j) (mrk j (C j).length)) := fun j hj => HG.rd j (by omega) hj
          have HR' : Hid (∀ j, j < n → wr.cell? ⟨gl, off + j, none⟩ = some (V j)) := HR
          clear HR HU HG hown hcells
          obtain ⟨Wf, hWf⟩ : ∃ Wf, Wf = wr := ⟨_, rfl⟩
          subst hWf
          go_wp2_with fail
          go_loopw [70] (fun i wr' => ∃ b : Nat, b ≤ k ∧ i = .int .i64 (b : Int) ∧ Below Wf.heap.size Wf wr') (fun i _ => k - (intOf i).toNat)
          case atStart => exact ⟨0, by omega, rfl, Below.refl _ _⟩
          case round =>
            obtain ⟨b, hbk, rfl, hbw⟩ := hrel
            by_cases c2 : b = k
            · have hbi : ¬ (b : Int) < (k : Int) := by omega
              go_wp2_with fail
              go_ret
              exact ⟨rfl, ab_trans hA hbw, hBy.keep hbw hD⟩
            · have hbk2 : b < k := by omega
              have hbi : (b : Int) < (k : Int) := by omega
              have hbn : b < n := by omega
              have dU := keep_cell hbw (HUc.out b hbk2) (hgy (by omega))
              obtain rfl := hpy (by omega)
              have hl5 := hlen b hbn
              obtain ⟨qu, cu, gu, ou, eu, -, -, hpu, hgu, hru⟩ := (HUs.out b hbk2).open
              obtain ⟨qv, cv, gv, ov, ev, -, -, hpv, hgv, hrv⟩ := (HVs.out b hbn).open
              rw [mrk_len] at eu hpu hgu ev hpv hgv
              obtain rfl := hpu (by omega)
              have hgu1 := hgu (by omega)
              rw [eu] at dU
              have HBU : Hid (BRow Wf gu ou (mrk b ((C b).length + 10))) := hru
              have HBV : Hid (BRow Wf gv ov (mrk b (C b).length)) := hrv
              have HEv : Hid (V b = .slice qv (C b).length cv) := ev
              have HEu : Hid (U b = .slice (some ⟨gu, ou, none⟩) ((C b).length + 10) cu) := eu
              clear hru hrv ev eu hpu hgu
              generalize hm : (C b).length = m at *
              go_wp2_with fail
              go_loopw [77] (fun i wr' => ∃ j : Nat, j ≤ m + 10 ∧ i = .int .i64 (j : Int) ∧ Below Wf.heap.size Wf wr') (fun i _ => m + 10 - (intOf i).toNat)
              case atStart => exact ⟨0, by omega, rfl, hbw⟩
              case round =>
                clear hbw dU
                obtain ⟨j, hj, rfl, hbw⟩ := hrel
                by_cases c3 : j = m + 10
                · subst c3
                  go_wp2_with fail
                  exact ⟨⟨b + 1, by omega, rfl, hbw⟩, by simp only [intOf]; omega⟩
                · have hjm : j < m + 10 := by omega
                  have hji : (j : Int) < (m : Int) + 10 := by omega
                  have dUj := keep_cell hbw (HBU.out j _ (mrk_at b (m + 10) j hjm)) hgu1
                  have dVb := keep_cell hbw (HR'.out b hbn) hgl
                  rw [HEv.out] at dVb
                  have hmk := mk1_cast b j
                  have hmb := mk1_lt b j
                  have hne : ((mk1 b j : Int) != (mk1 b j : Int)) = false := by simp
                  have x1 := cls_cell dUj (Nat.lt_of_lt_of_le hgu1 hbw.size)
                  have x2 := cls_cell dVb (Nat.lt_of_lt_of_le hgl hbw.size)
                  by_cases c4 : j < m
                  · have c4' : (j : Int) < (m : Int) := by omega
                    obtain rfl := hpv (by omega)
                    have hgv1 := hgv (by omega)
                    have dVj := keep_cell hbw (HBV.out j _ (mrk_at b m j c4)) hgv1
                    have x3 := cls_cell dVj (Nat.lt_of_lt_of_le hgv1 hbw.size)
                    go_upto_region 25 with fail
                    refine wp_region_below (by kernel_rfl) (by kernel_rfl) ?_
                    have HZ := cls_some wr
                    repeat (go_big_quiet_step (fail))
                    refine wpQuiet_nil ?_
                    rintro _ ⟨y, rfl⟩
                    obtain ⟨W9, hb9⟩ := y
                    dsimp only
                    clear x1 x2 x3 HZ dUj dVb dVj
                    go_wp2_with fail
                    exact ⟨⟨j + 1, by omega, rfl, ab_trans hbw hb9⟩, by simp only [intOf]; omega⟩
                  · have c4' : ¬ (j : Int) < (m : Int) := by omega
                    go_upto_region 25 with fail
                    refine wp_region_below (by kernel_rfl) (by kernel_rfl) ?_
                    have HZ := cls_some wr
                    repeat (go_big_quiet_step (fail))
                    refine wpQuiet_nil ?_
                    rintro _ ⟨y, rfl⟩
                    obtain ⟨W9, hb9⟩ := y
                    dsimp only
                    clear x1 x2 HZ dUj dVb
                    go_wp2_with fail
                    exact ⟨⟨j + 1, by omega, rfl, ab_trans hbw hb9⟩, by simp only [intOf]; omega⟩
        · have hkn : k < n := by omega
          have hki : (k : Int) < (n : Int) := by omega
          have d := HR k hkn
          have hO := HG.own k (Nat.le_refl _) hkn
          have hl5 := hlen k hkn
          have hshp := hO.shp
          rw [mrk_len] at hshp
          have HG1 := HG.next
          have HA1 : Apt (.slice (some ⟨gl, off, none⟩) n cap) u6 (V k) n k k V U := ⟨fun j h1 h2 => HG.vv j k h1 hkn h2, fun j h1 => HG.uv j k h1 hkn (by omega), HG.yv k hkn, HG.gw k hkn⟩
          obtain ⟨qk, capk, ev⟩ := hO.form
          rw [mrk_len] at ev
          have HOk : Ow wr A.heap.size (V k) (mrk k ((C k).length + 0)) := hO
          have HShp : Hid (Shp (V k) (C k).length) := hshp
          clear hO hshp HG
          rw [ev] at d
          rw [ev] at HOk HA1
          have HEV : Hid (V k = .slice qk (C k).length capk) := ev
          clear ev
          generalize hm : (C k).length = m at *
          have HR' : Hid (∀ j, j < n → wr.cell? ⟨gl, off + j, none⟩ = some (V j)) := HR
          have HU' : Hid (∀ j, j < k → us[j]? = some (U j)) := HU
          have HxV : Hid (∀ g, (Value.slice qk m capk).ownBlock = some g → ¬ D g) := fun g hg => hDV k hkn g (by rw [HEV.out]; exact hg)
          clear HR HU
          go_wp2_with fail
          go_loopw [8] (fun x wr' => ∃ t : Nat, t ≤ 10 ∧ Ow wr' A.heap.size x (mrk k (m + t)) ∧ Apt (.slice (some ⟨gl, off, none⟩) n cap) u6 x n k k V U ∧ Gr wr' A.heap.size (.slice (some ⟨gl, off, none⟩) n cap) u6 n (k + 1) k V U (fun j => (C j).length) ∧ wr'.ownsRow A.heap.size 39 1 u6 k us ∧ Hid (∀ j, j < n → wr'.cell? ⟨gl, off + j, none⟩ = some (V j)) ∧ gl < wr'.heap.size ∧ Below A.heap.size A wr' ∧ By D w0 wr' ∧ Hid (∀ g, x.ownBlock = some g → ¬ D g)) (fun x _ => m + 10 - slLen2 x)
          case atStart => exact ⟨0, by omega, HOk, HA1, HG1, hown, HR', hgl, hA, hBy, HxV⟩
          case round =>
            clear HOk HA1 HG1 hown HR' hgl hA d hBy HxV
            obtain ⟨t, ht, HO, HAp, HG, hown, HR, hgl, hA, hBy, Hx⟩ := hrel
            obtain ⟨qx, capx, ex⟩ := HO.form
            rw [mrk_len] at ex
            subst ex
            by_cases c2 : t = 10
            · subst c2
              go_upto_region 18 with (first
                | (refine bs_ls rfl rfl [_] [mrk k (m + 10)] (by simp only [List.map_toArray, List.map_cons, List.map_nil]; rfl) (bsl1 _ _ _ _) rfl (by decide) rfl (each1 HO.sl) ?_; intro W2 hls2 hb2 hbk2)
                | (at_builtin; refine app1 A rfl rfl rfl (own_keep hown hb2) rfl ⟨_, _, _, rfl⟩ (hbk2.at (i := 0) rfl) (by omega) (ab_trans hA hb2) ?_; intro y3 W3 hown3 hnn3 hb3 hgr3 hat3))
              have hgr4 : W2.grownBy W3 u6.ownBlock := hgr3
              have hat4 : y3.ownBlock = u6.ownBlock ∨ y3.ownBlock = some W2.heap.size := hat3
              have hgl2 := Nat.lt_of_lt_of_le hgl hb2.size
              have HO2 : Ow W2 A.heap.size (.slice qx (m + 10) capx) (mrk k ((fun j => (C j).length) k + 10)) := by show Ow _ _ _ (mrk k ((C k).length + 10)); rw [hm]; exact HO.keep hb2
              have HGn := (HG.keep hb2).put HAp HO2 hgr4 hat4 (fun b hb => by simp [Value.ownBlock] at hb; omega)
              have hul : us.length = k := by have := hown.1; omega
              have HUn : ∀ j, j < k + 1 → (us ++ [.slice qx (m + 10) capx])[j]? = some (if j = k then .slice qx (m + 10) capx else U j) := fun j hj => by
                by_cases c3 : j = k
                · rw [if_pos c3, List.getElem?_append_right (by omega)]; simp [hul, c3]
                · rw [if_neg c3, List.getElem?_append_left (by omega)]; exact HU'.out j (by omega)
              have HRn : ∀ j, j < n → W3.cell? ⟨gl, off + j, none⟩ = some (V j) := fun j hj => hgr4.cell (keep_cell hb2 (HR.out j hj) hgl) (fun e => HG.gy gl rfl e.symm)
              have HRh : Hid (∀ j, j < n → W3.cell? ⟨gl, off + j, none⟩ = some (V j)) := HRn
              have HUh : Hid (∀ j, j < k + 1 → (us ++ [.slice qx (m + 10) capx])[j]? = some (if j = k then .slice qx (m + 10) capx else U j)) := HUn
              have hBy4 := (hBy.keep hb2 hD).grown hgr4 HyH.out hD
              have HyN : Hid (∀ g, y3.ownBlock = some g → ¬ D g) := fun g hg hd => by
                rcases hat4 with e | e
                · exact HyH.out g (by rw [← e]; exact hg) hd
                · rw [e] at hg
                  have e2 : W2.heap.size = g := by simpa using hg
                  have := hD g hd
                  have := (hBy.keep hb2 hD).size
                  omega
              clear hgr3 hat3 HO2 HG HO hown HR HRn HUn hls2 hbk2
              go_wp2_with fail
              exact ⟨⟨k + 1, _, _, by omega, rfl, HGn, hown3, HUh.out, HRh.out, Nat.lt_of_lt_of_le hgl2 hgr4.size, hb3, hBy4, HyN.out⟩, by simp only [intOf]; omega⟩
            · have hki2 : (m : Int) + (t : Int) < (m : Int) + 10 := by omega
              have hkn2 : m + t < m + 10 := by omega
              have hmk := mk1_cast k (m + t)
              go_wp2_with (first
                | (refine bs_by rfl rfl [mk1 k (m + t)] (vs := #[(0, .int .u8 ((mk1 k (m + t) : Nat) : Int))]) (by simp only [List.map_toArray, List.map_cons, List.map_nil]; rfl) (bsb1 _ _) rfl (by decide) ?_; intro W2 hN2 hb2 z2)
                | (at_builtin; refine app_by2 A rfl rfl rfl (HO.keep hb2) rfl (own_sl hN2).2 rfl (by rw [mrk_len]; show m + t + 1 ≤ _; omega) (ab_trans hA hb2) ?_; intro x3 W3 hown3 hb3 hgr3 hat3))
              have HO3 : Ow W3 A.heap.size x3 (mrk k (m + (t + 1))) := ow_of hown3
              have hg3 : W2.grownBy W3 (Value.slice qx (m + t) capx).ownBlock := hgr3
              have hat4 : x3.ownBlock = (Value.slice qx (m + t) capx).ownBlock ∨ x3.ownBlock = some W2.heap.size ∧ W2.grownBy W3 none := hat3
              have HG2 := HG.keep hb2
              have hgl2 := Nat.lt_of_lt_of_le hgl hb2.size
              have hyo := own_keep hown hb2
              have hrdk := HG2.rd k (by omega) hkn
              have hrd3 : Sl W3 (V k) (mrk k (C k).length) := by
                have h1 : Sl W2 (V k) (mrk k (C k).length) := hrdk
                rw [hm] at h1 ⊢
                exact rd_step HShp.out h1 HO3 hg3 hat4
              have HG3 := HG2.kept HAp hg3 (fun _ => hrd3)
              have HA3 := HAp.at HG2 (fun b hb => (hyo.lt b hb).2) (fun b hb => by simp [Value.ownBlock] at hb; omega) (hat4.imp id (fun h => h.1))
              have HR3 : Hid (∀ j, j < n → W3.cell? ⟨gl, off + j, none⟩ = some (V j)) := fun j hj => hg3.cell (keep_cell hb2 (HR.out j hj) hgl) (fun e => HAp.g gl rfl e.symm)
              have hBy3 := (hBy.keep hb2 hD).grown hg3 Hx.out hD
              have Hx3 : Hid (∀ g, x3.ownBlock = some g → ¬ D g) := fun g hg hd => by
                rcases hat4 with e | ⟨e, _⟩
                · exact Hx.out g (by rw [← e]; exact hg) hd
                · rw [e] at hg
                  have e2 : W2.heap.size = g := by simpa using hg
                  have := hD g hd
                  have := (hBy.keep hb2 hD).size
                  omega
              refine ⟨⟨t + 1, by omega, HO3, HA3, HG3, World.ownsRow.kept hyo hg3 HAp.y.row, HR3, Nat.lt_of_lt_of_le hgl2 hg3.size, hb3, hBy3, Hx3⟩, ?_⟩
              obtain ⟨q4, c4, e4⟩ := HO3.form
              rw [e4, mrk_len]
              simp only [slLen2]
              omega
    · have hkn : k < n := by omega
      have hki : (k : Int) < (n : Int) := by omega
      have d := HB.row k hkn
      have hl5 := hlen k hkn
      have hO := HB.own k hkn
      have eC : cI C k 0 k = C k := by unfold cI; rw [if_neg (by omega), if_pos rfl, mix_zero]
      rw [eC] at hO
      have hshp := hO.shp
      have hwb := hO.lt
      obtain ⟨qk, capk, ev⟩ := hO.form
      have HEV : Hid (V k = .slice qk (C k).length capk) := ev
      rw [ev] at d
      generalize hm : (C k).length = m at *
      clear hO eC
      go_wp2_with fail
      go_loopw [22] (fun i wr' => ∃ t : Nat, t ≤ m ∧ i = .int .i64 (t : Int) ∧ Bg wr' A.heap.size gl off n V (cI C k t) ∧ gl < wr'.heap.size ∧ Below A.heap.size A wr' ∧ By D w0 wr') (fun i _ => m - (intOf i).toNat)
      case atStart => exact ⟨0, by omega, rfl, HB, hgl, hA, hBy⟩
      case round =>
        clear HB hgl hA d hBy
        obtain ⟨t, ht, rfl, HB, hgl, hA, hBy⟩ := hrel
        by_cases c2 : t = m
        · have HB2 := HB.same (fun j _ => show cI C k t j = cI C (k + 1) 0 j by rw [c2, ← hm]; exact cI_next C k j)
          clear HB
          subst c2
          go_wp2_with fail
          exact ⟨⟨k + 1, by omega, rfl, HB2, hgl, hA, hBy⟩, by simp only [intOf]; omega⟩
        · rcases hshp with ⟨_, h0⟩ | ⟨g, cap2, e2, _, _⟩
          · omega
          · rw [HEV.out] at e2
            cases e2
            have htm : t < m := by omega
            have hti : (t : Int) < (m : Int) := by omega
            have hbg := hwb g (by rw [HEV.out]; rfl)
            have hO2 := HB.own k hkn
            have eC : cI C k t k = mix k t (C k) := by unfold cI; rw [if_neg (by omega), if_pos rfl]
            rw [eC, HEV.out] at hO2
            have hO3 : wr.ownsRow A.heap.size 5 1 (.slice (some ⟨g, 0, none⟩) m capk) m (bys (mix k t (C k))) := by
              unfold Ow at hO2
              rwa [mix_len k t (C k) (by omega), hm] at hO2
            have hfz := hO3.frozenAt t
            obtain ⟨z, hz⟩ : ∃ z, (mix k t (C k))[t]? = some z := ⟨_, List.getElem?_eq_getElem (by rw [mix_len k t (C k) (by omega)]; omega)⟩
            have hcl := hO3.cellAt t (by omega)
            rw [bys_at, hz, Option.map_some] at hcl
            have hgg : gl ≠ g := fun e => by
              have := hsg k hkn gl rfl
              rw [HEV.out] at this
              exact this (by rw [e]; rfl)
            have hmk := mk1_cast k t
            have HST : Hid (Bg (wr.setCell ⟨g, t, none⟩ (.int .u8 ((mk1 k t : Nat) : Int))) A.heap.size gl off n V (cI C k (t + 1))) := HB.store hkn (by omega) (by rw [hm]; exact HEV.out) (fun i h1 h2 => hsep i k h1 hkn h2) hgg
            have HBL : Hid (Below A.heap.size A (wr.setCell ⟨g, t, none⟩ (.int .u8 ((mk1 k t : Nat) : Int)))) := ab_set hA hbg.1 _
            have hByS : Hid (By D w0 (wr.setCell ⟨g, t, none⟩ (.int .u8 ((mk1 k t : Nat) : Int)))) := hBy.set (fun hd => hDV k hkn g (by rw [HEV.out]; rfl) hd)
            clear HB hO2 hO3 eC hz
            go_wp2_with fail
            exact ⟨⟨t + 1, by omega, rfl, HST.out, by simpa using hgl, HBL.out, hByS.out⟩, by simp only [intOf]; omega⟩
end Go.Proofs.Ytalbiggmmmkclaa
namespace Go.Proofs.Ytalbiggmmmkclaa
open Go.RowKit
set_option linter.unusedVariables false

theorem getD_some {α : Type} {l : List α} {j : Nat} (d : α) (h : j < l.length) : l[j]? = some (l.getD j d) := by
  rw [List.getD_eq_getElem?_getD, List.getElem?_eq_getElem h]; rfl
theorem apart_bag (A : World) (gl cap n : Nat) (vs : List Value) (ls : List (List Nat)) (w : World) (hA : Below A.heap.size A w) (hB : Bag w A.heap.size vs ls) (hr : ∀ j x, vs[j]? = some x → w.cell? ⟨gl, j, none⟩ = some x) (hn : vs.length = n) (hn3 : n ≤ 200000) (hl : ∀ l ∈ ls, l.length ≤ 110000) (hgl : gl < w.heap.size)
    (hsg : ∀ (j : Nat) (u : Value), vs[j]? = some u → Sep u (.slice (some ⟨gl, 0, none⟩) n cap)) :
    Calls Try.prog 28 #[.slice (some ⟨gl, 0, none⟩) n cap] w fun e w' => e = .returned (.bool true) ∧ Below A.heap.size A w' := by
  have hv : ∀ j, j < n → vs[j]? = some (vs.getD j .nilIface) := fun j hj => getD_some _ (by omega)
  have hc : ∀ j, j < n → ls[j]? = some (ls.getD j []) := fun j hj => getD_some _ (by have := hB.len; omega)
  exact apart_any A gl 0 cap n (fun j => vs.getD j .nilIface) (fun j => ls.getD j []) w hA
    ⟨fun j hj => hB.own j _ _ (hv j hj) (hc j hj), fun j hj => by rw [Nat.zero_add]; exact hr j _ (hv j hj)⟩ hn3 (fun j hj => hl _ (List.mem_of_getElem? (hc j hj))) hgl
    (fun i j hi hj hij => hB.sep i j _ _ hij (hv i hi) (hv j hj)) (fun j hj => (hsg j _ (hv j hj)).symm)
theorem apart_new (A W W' : World) (vs : List Value) (ls : List (List Nat)) (n : Nat) (hA : Below A.heap.size A W) (hB : Bag W A.heap.size vs ls) (hbk : Blk W' W.heap.size vs.toArray 39) (hb : Below W.heap.size W W') (hn : vs.length = n) (hn3 : n ≤ 200000) (hl : ∀ l ∈ ls, l.length ≤ 110000) :
    Calls Try.prog 28 #[.slice (some ⟨W.heap.size, 0, none⟩) n n] W' fun e w' => e = .returned (.bool true) ∧ Below A.heap.size A w' :=
  apart_bag A W.heap.size n n vs ls W' (ab_trans hA hb) (hB.keep hb) (fun j x hx => hbk.at (by simpa using hx)) hn hn3 hl hbk.lt
    (fun j u hu => sep_lt (fun k hk => (hB.lt hu k hk).2) (fun k hk => by simp [Value.ownBlock] at hk; omega))
theorem bag1 {W : World} {base : Nat} {v : Value} {l : List Nat} (h : Ow W base v l) : Bag W base [v] [l] := (Bag.nil W base).snoc h (fun j x hx => by simp at hx)
theorem bag_snoc {W : World} {base : Nat} {vs : List Value} {ls : List (List Nat)} {v : Value} {l : List Nat} (h : Bag W base vs ls) (hv : Ow W base v l) (hs : ∀ x ∈ vs, Sep x v) : Bag W base (vs ++ [v]) (ls ++ [l]) := h.snoc hv (fun j x hx => hs x (List.mem_of_getElem? hx))
theorem sep_nil (v : Value) (n c : Nat) : Sep v (.slice none n c) := fun k _ he => by cases he
/-- Made later. -/
theorem sep_new {W W' : World} {base base' : Nat} {v u : Value} {l m : List Nat} (hv : Ow W base v l) (hu : Ow W' base' u m) (hb : W.heap.size ≤ base') : Sep v u := sep_lt (fun k hk => (hv.lt k hk).2) (fun k hk => Nat.le_trans hb (hu.lt k hk).1)
end Go.Proofs.Ytalbiggmmmkclaa
namespace Go.Proofs.Ytalbiggmmmkclaa
open Go.RowKit
set_option linter.unusedVariables false
set_option maxRecDepth 100000

/-- What an Open answers, and where. -/
def OpR2 (w w' : World) (b : Nat) (S : TS) (v' : Value) (e : Ending) : Prop :=
  (opN S ≠ 0 → e = .returned (.tuple #[.pointer none, .slice none 0 0, Err ((opN S : Nat) : Int)])) ∧
  (opN S = 0 → ∃ d vl vs, e = .returned (.tuple #[tptr d, vl, .nilIface]) ∧ w.heap.size ≤ d ∧ Blk w' d (dcs b (spt S.l).length (spN (spt S.l))) 80 ∧ Lis w' w.heap.size vl vs (spt S.l) ∧ ∀ (j : Nat) (u : Value), vs[j]? = some u → Sep u v')
set_option maxHeartbeats 1000000 in
theorem dopen2_any (base b : Nat) (v : Value) (S : TS) (w : World) (hT : Tp w base b v S) (hst : S.steps < 4611686018427387000) (hby : Byt S.l) :
    Calls Try.prog 12 #[tptr b] w fun e w' => ∃ v', OpR2 w w' b S v' e ∧ Tp w' base b v' (opS S) ∧ Mv b w w' v v' := by
  have c7 := hT.oct.c7
  by_cases hd : S.down = true
  · have hN : Hid (opN S = 5) := if_pos hd
    have hS : Hid (opS S = S) := if_pos hd
    rw [hd] at c7
    go_enter Try.func12, Try.ntmps12
    go_wp2_with (go_at_call 35; refine (down_any b _ _ c7).mono ?_; rintro e W1 ⟨rfl, hW1⟩; subst W1)
    go_ret3
    exact ⟨v, ⟨fun _ => by rw [hN.out]; rfl, fun h => by rw [hN.out] at h; cases h⟩, by rw [hS.out]; exact hT, Mv.refl _ _ _⟩
  · have hmx := hT.max
    have hle := spt_le S.l hby
    have hfew := spt_few S.l hby
    have hd' : S.down = false := by simpa using hd
    rw [hd'] at c7
    go_enter Try.func12, Try.ntmps12
    go_upto_region 5 with (first
      | (go_at_call 35; refine (down_any b _ _ c7).mono ?_; rintro e W1 ⟨rfl, hW1⟩; subst W1)
      | (go_at_call 32; refine (tread_any _ _ _ _ _ hT).mono ?_; rintro e W1 ⟨v1, rfl, O1, b1⟩; obtain ⟨q1, c1, e1⟩ := O1.form; subst e1; have h1 := hT.keep b1)
      | (go_at_call 36; refine (split_any _ _ _ O1.sl hby hmx).mono ?_; rintro e W2 ⟨vl, vs, rfl, L2, b2⟩; have h2 := h1.keep b2))
    have O2 := O1.keep b2
    have hlen := L2.ls.len
    obtain ⟨ql, nl, cl, el, hnl⟩ : ∃ q n c, vl = .slice q n c ∧ n = (spt S.l).length := by
      obtain ⟨q, c, e, -⟩ := L2.ls.row
      exact ⟨q, _, c, e, L2.ls.len⟩
    subst el
    have mv2 := (mv_below (b := b) v b1).trans (mv_below v b2)
    have SEP0 : ∀ (j : Nat) (u : Value), vs[j]? = some u → Sep u v := fun j u hu => (sep_lt (fun k hk => (h1.own.lt k hk).2) (fun k hk => (L2.bag.lt hu k hk).1)).symm
    clear O1
    generalize hsp : spN (spt S.l) = sp at *
    generalize hn : S.l.length = n at *
    generalize hF : spt S.l = F at *
    by_cases hlt : sp < n
    · have hN : Hid (opN S = stN S) := by show _ = _; unfold opN; rw [if_neg hd, hF, hsp, hn, if_pos hlt]
      have hS : Hid (opS S = rpS S (S.l.take sp)) := by show _ = _; unfold opS; rw [if_neg hd, hF, hsp, hn, if_pos hlt]
      have hlti : (sp : Int) < (n : Int) := by omega
      have HL : Hid ((S.l.take sp).length = sp) := by show _ = _; rw [List.length_take]; omega
      have HR : Hid (rpN S sp = stN S) := if_pos (by omega)
      have hn5 := ne5n
      have hn6 := ne6n
      have O2' : W2.ownsRow w.heap.size 5 1 (.slice q1 n c1) n (bys S.l) := by have := O2; unfold Ow at this; rwa [hn] at this
      go_upto_region 7 with (first
        | (refine slb_hO rfl rfl sp rfl rfl rfl (by omega) O2' ?_; intro O3)
        | (go_at_call 37; refine (replace_any _ _ _ _ _ _ _ h2 (by omega) (stb_own hT O3)).mono ?_; rw [HL.out, HR.out]; rintro e W3 ⟨rfl, v3, h3, m3⟩))
      have L3 := L2.at (mv_young h1 m3)
      have mv3 := mv2.trans m3
      have SEP : ∀ (j : Nat) (u : Value), vs[j]? = some u → Sep u v3 := fun j u hu k hk he => by
        rcases m3.next k he with e | e
        · exact SEP0 j u hu k hk e
        · have := (L2.bag.lt hu k hk).2
          omega
      clear O2 O2' O3 L2 mv2 h2
      rcases stN_of S with h0 | h0 | h0
      · rw [errV_ok h0]
        have HN0 : Hid (opN S = 0) := hN.out.trans h0
        go_wp2_with fail
        go_ret3
        subst hnl
        have ba : Below W3.heap.size W3 (W3.alloc (.cells (dcs b F.length sp) 80)) := (Below.refl _ _).alloc (Nat.le_refl _) _
        exact ⟨v3, ⟨fun h => absurd HN0.out h, fun _ => ⟨W3.heap.size, _, vs, rfl, mv3.size, by rw [hF, hsp]; exact Blk.new _ _ _, by rw [hF]; exact (L3.less b1.size).keep ba, SEP⟩⟩, by rw [hS.out]; exact h3.keep ba, mv3.trans (mv_below v3 ba)⟩
      · rw [h0, show errV 5 = Err 5 from rfl]
        have HN0 : Hid (opN S = 5) := hN.out.trans h0
        go_wp2_with fail
        go_ret3
        exact ⟨v3, ⟨fun _ => by rw [HN0.out]; rfl, fun h => by rw [HN0.out] at h; cases h⟩, by rw [hS.out]; exact h3, mv3⟩
      · rw [h0, show errV 6 = Err 6 from rfl]
        have HN0 : Hid (opN S = 6) := hN.out.trans h0
        go_wp2_with fail
        go_ret3
        exact ⟨v3, ⟨fun _ => by rw [HN0.out]; rfl, fun h => by rw [HN0.out] at h; cases h⟩, by rw [hS.out]; exact h3, mv3⟩
    · have hN : Hid (opN S = 0) := by show _ = _; unfold opN; rw [if_neg hd, hF, hsp, hn, if_neg hlt]
      have hS : Hid (opS S = S) := by show _ = _; unfold opS; rw [if_neg hd, hF, hsp, hn, if_neg hlt]
      have hlti : ¬ (sp : Int) < (n : Int) := by omega
      go_wp2_with fail
      go_ret3
      subst hnl
      have ba : Below W2.heap.size W2 (W2.alloc (.cells (dcs b F.length sp) 80)) := (Below.refl _ _).alloc (Nat.le_refl _) _
      exact ⟨v, ⟨fun h => absurd hN.out h, fun _ => ⟨W2.heap.size, _, vs, rfl, mv2.size, by rw [hF, hsp]; exact Blk.new _ _ _, by rw [hF]; exact (L2.less b1.size).keep ba, SEP0⟩⟩, by rw [hS.out]; exact h2.keep ba, mv2.trans (mv_below v ba)⟩

/-- Bytes; all sure while the power is there. -/
structure Iv (S : TS) : Prop where
  byt : Byt S.l
  full : S.down = false → S.sure = S.l.length
theorem st_was (S : TS) (h : S.down = true) : stS S = S ∧ stN S = 5 := ⟨if_pos h, if_pos h⟩
theorem iv_st {S : TS} (h : Iv S) : Iv (stS S) := by
  have hl := stS_l S
  refine ⟨by rw [hl.1]; exact h.byt, fun hd => ?_⟩
  rw [hl.1, hl.2]
  by_cases h0 : S.down = true
  · rw [(st_was S h0).1] at hd
    exact h.full hd
  · exact h.full (by simpa using h0)
theorem iv_ct {S : TS} (hw : Wf S) (hb : Byt S.l) : Iv (ctS S) ∧ (ctS S).sure = S.sure := by
  unfold ctS
  split
  · exact ⟨⟨hb, fun h => by simp_all⟩, rfl⟩
  · refine ⟨⟨hb.take _, fun _ => ?_⟩, rfl⟩
    show S.sure = (S.l.take S.sure).length
    rw [List.length_take]
    have := hw.sure
    omega
theorem iv_wr {S : TS} (h : Iv S) (hw : Wf S) {m : List Nat} (hb : Byt m) : Iv (wrS S m) ∧ S.sure ≤ (wrS S m).sure ∧ (wrN S m = 0 → S.sure + m.length ≤ (wrS S m).sure) := by
  have hsl := stS_l S
  have hwst := wf_st hw
  by_cases hroom : S.l.length + m.length ≤ 1048576
  · have hap : apN S m.length = stN S := if_pos hroom
    have haS : apS S m = if stN S = 0 then { stS S with l := S.l ++ m } else stS S := if_pos hroom
    rcases stN_of S with h0 | h5 | h6
    · have hd : S.down = false := by
        cases hdd : S.down with
        | false => rfl
        | true => have := (st_was S hdd).2; omega
      have hfull := h.full hd
      rw [if_pos h0] at haS
      have hA1 : (apS S m).l = S.l ++ m := by rw [haS]
      have hA2 : (apS S m).sure = S.sure := by rw [haS]; exact hsl.2
      have hwA := wf_ap m hw
      have hN : wrN S m = stN (apS S m) := if_pos (hap.trans h0)
      have hS : wrS S m = if stN (apS S m) = 0 then syS (apS S m) else ctS (syS (apS S m)) := if_pos (hap.trans h0)
      have hbA : Byt (apS S m).l := by rw [hA1]; exact h.byt.append hb
      rw [hN, hS]
      generalize apS S m = A at *
      have hAl := stS_l A
      by_cases k0 : stN A = 0
      · rw [if_pos k0]
        have e : syS A = { stS A with sure := A.l.length } := if_pos k0
        have e1 : (syS A).l = A.l := by rw [e]; exact hAl.1
        have e2 : (syS A).sure = A.l.length := by rw [e]
        refine ⟨⟨by rw [e1]; exact hbA, fun _ => by rw [e1, e2]⟩, ?_, fun _ => ?_⟩
        · rw [e2, hA1, List.length_append]; omega
        · rw [e2, hA1, List.length_append]; omega
      · rw [if_neg k0]
        have e : syS A = stS A := if_neg k0
        rw [e]
        have h9 := iv_ct (wf_st hwA) (by rw [hAl.1]; exact hbA)
        exact ⟨h9.1, by rw [h9.2, hAl.2, hA2]; exact Nat.le_refl _, fun h => absurd h k0⟩
    · rw [if_neg (by omega)] at haS
      have hN : wrN S m = 5 := by unfold wrN; rw [if_neg (by omega), hap, h5]
      have hS : wrS S m = ctS (stS S) := by unfold wrS; rw [if_neg (by omega), if_neg (by omega), haS]
      have h9 := iv_ct hwst (by rw [hsl.1]; exact h.byt)
      rw [hS, hN]
      exact ⟨h9.1, by rw [h9.2, hsl.2]; exact Nat.le_refl _, fun h => by omega⟩
    · rw [if_neg (by omega)] at haS
      have hN : wrN S m = 6 := by unfold wrN; rw [if_neg (by omega), hap, h6]
      have hS : wrS S m = ctS (stS S) := by unfold wrS; rw [if_neg (by omega), if_neg (by omega), haS]
      have h9 := iv_ct hwst (by rw [hsl.1]; exact h.byt)
      rw [hS, hN]
      exact ⟨h9.1, by rw [h9.2, hsl.2]; exact Nat.le_refl _, fun h => by omega⟩
  · have hap : apN S m.length = 7 := if_neg hroom
    have haS : apS S m = S := if_neg hroom
    have hN : wrN S m = 7 := by unfold wrN; rw [if_neg (by omega), hap]
    have hS : wrS S m = S := by unfold wrS; rw [if_neg (by omega), if_pos hap, haS]
    rw [hS, hN]
    exact ⟨h, Nat.le_refl _, fun h => by omega⟩
theorem iv_rp {S : TS} (h : Iv S) {m : List Nat} (hb : Byt m) (hm : m.length ≤ 1048576) : Iv (rpS S m) ∧ (stN S ≠ 0 → (rpS S m).sure = S.sure) ∧ (stN S = 0 → (rpS S m).sure = m.length) := by
  have e : rpS S m = if stN S = 0 then { stS S with l := m, sure := m.length } else stS S := if_pos hm
  rw [e]
  split
  · exact ⟨⟨hb, fun _ => rfl⟩, fun h => absurd (by assumption) h, fun _ => rfl⟩
  · exact ⟨iv_st h, fun _ => (stS_l S).2, fun h => absurd h (by assumption)⟩
theorem iv_rw {S : TS} (h : Iv S) {ls : List (List Nat)} (hb : ∀ l ∈ ls, Byt l) : Iv (rwS S ls) ∧ (rwN S ls ≠ 0 → (rwS S ls).sure = S.sure) ∧ (rwN S ls = 0 → (rwS S ls).sure = spN ls ∧ rwOK ls = true) := by
  unfold rwS rwN
  by_cases hok : rwOK ls = true
  · rw [if_pos hok, if_pos hok]
    have h9 := iv_rp h (frms_byt hb) (by rw [frms_len]; exact ((rwOK_iff ls).1 hok).2)
    exact ⟨h9.1, h9.2.1, fun h0 => ⟨by rw [h9.2.2 h0, frms_len], hok⟩⟩
  · rw [if_neg hok, if_neg hok]
    exact ⟨h, fun _ => rfl, fun h => by cases h⟩
theorem iv_op {S : TS} (h : Iv S) (hw : Wf S) : Iv (opS S) ∧ (opN S = 0 → spN (spt S.l) ≤ (opS S).sure) := by
  have hle := spt_le S.l h.byt
  unfold opS opN
  by_cases hd : S.down = true
  · rw [if_pos hd, if_pos hd]
    exact ⟨h, fun h => by cases h⟩
  · rw [if_neg hd, if_neg hd]
    by_cases hlt : spN (spt S.l) < S.l.length
    · rw [if_pos hlt, if_pos hlt]
      have hl : (S.l.take (spN (spt S.l))).length = spN (spt S.l) := by rw [List.length_take]; omega
      have h9 := iv_rp h (h.byt.take (spN (spt S.l))) (by rw [hl]; have := hw.max; omega)
      exact ⟨h9.1, fun h0 => by rw [h9.2.2 h0, hl]; exact Nat.le_refl _⟩
    · rw [if_neg hlt, if_neg hlt]
      exact ⟨h, fun _ => by rw [h.full (by simpa using hd)]; exact hle⟩
theorem iv_cr {S : TS} (h : Iv S) (hw : Wf S) (k : Int) : Iv (crS S k) := by
  refine ⟨h.byt.take _, fun _ => ?_⟩
  show S.sure + kp S k = (S.l.take (S.sure + kp S k)).length
  have := kp_le S k
  have := hw.sure
  rw [List.length_take]
  omega
theorem steps_op (S : TS) : (opS S).steps ≤ S.steps + 1 := by
  have h1 := steps_rp S (S.l.take (spN (spt S.l)))
  unfold opS
  split
  · omega
  · split <;> omega
/-- Nothing but these slices' memory has turned. -/
structure Ma (vs : List Value) (w w' : World) : Prop where
  os : w'.os = w.os
  tape : w'.tape = w.tape
  output : w'.output = w.output
  size : w.heap.size ≤ w'.heap.size
  other : ∀ k, k < w.heap.size → (∀ (j : Nat) (u : Value), vs[j]? = some u → u.ownBlock ≠ some k) → w'.heap[k]? = w.heap[k]?
/-- The world's older blocks alone. -/
def older (w : World) (N : Nat) : World := { w with heap := w.heap.extract 0 N }
theorem older_size (w : World) (N : Nat) (h : N ≤ w.heap.size) : (older w N).heap.size = N := by simp [older]; omega
theorem older_below (w : World) (N : Nat) (h : N ≤ w.heap.size) : Below (older w N).heap.size (older w N) w := by
  refine ⟨rfl, rfl, rfl, by rw [older_size w N h]; exact h, fun k hk => ?_⟩
  rw [older_size w N h] at hk
  show w.heap[k]? = (w.heap.extract 0 N)[k]?
  rw [Array.getElem?_extract]
  simp
  omega
set_option maxHeartbeats 1000000 in
theorem apart_nil (w : World) : Calls Try.prog 28 #[.slice none 0 0] w fun e w' => e = .returned (.bool true) ∧ Below w.heap.size w w' := by
  go_enter Try.func28, Try.ntmps28
  go_wp2_with fail
  go_loopw [15] (fun i wr => i = .int .i64 0 ∧ Below w.heap.size w wr) (fun i _ => 0)
  case atStart => exact ⟨rfl, Below.refl _ _⟩
  case round =>
    obtain ⟨rfl, hb⟩ := hrel
    have b1 : Below w.heap.size w (wr.alloc (.cells #[] 39)) := hb.alloc hb.size _
    go_wp2_with fail
    generalize wr.alloc (.cells #[] 39) = X at *
    go_loopw [6, 40] (fun y i wr' => i = .int .i64 0 ∧ (∃ g c, y = .slice (some ⟨g, 0, none⟩) 0 c) ∧ Below w.heap.size w wr') (fun _ i _ => 0)
    case atStart => exact ⟨rfl, ⟨_, _, rfl⟩, b1⟩
    case round =>
      obtain ⟨rfl, ⟨g, c, rfl⟩, hb⟩ := hrel
      go_wp2_with fail
      go_loopw [70] (fun i wr' => i = .int .i64 0 ∧ Below w.heap.size w wr') (fun i _ => 0)
      case atStart => exact ⟨rfl, hb⟩
      case round =>
        obtain ⟨rfl, hb⟩ := hrel
        go_wp2_with fail
        go_ret
        exact ⟨rfl, hb⟩
theorem apart_lis (B : Nat) (vl : Value) (vs : List Value) (F : List (List Nat)) (w : World) (hL : Lis w B vl vs F) (hB : B ≤ w.heap.size) (hn : F.length ≤ 200000) (hl : ∀ l ∈ F, l.length ≤ 110000) :
    Calls Try.prog 28 #[vl] w fun e w' => e = .returned (.bool true) ∧ Ma vs w w' := by
  rcases hL.row.2 with ⟨h2, h3⟩ | ⟨gl, cap, cur, rfl, hbg, hg, hnc, hcm, hcs, ht⟩
  · subst h2
    exact (apart_nil w).mono fun e w' ⟨h1, h2⟩ => ⟨h1, h2.os, h2.tape, h2.output, h2.size, fun k hk _ => h2.block k hk⟩
  · have hlen := hL.bag.len
    have hz := older_size w B hB
    have hv : ∀ j, j < F.length → vs[j]? = some (vs.getD j .nilIface) := fun j hj => getD_some _ (by omega)
    have hc : ∀ j, j < F.length → F[j]? = some (F.getD j []) := fun j hj => getD_some _ hj
    have hbB := older_below w B hB
    have hlt : gl < w.heap.size := by
      rcases Nat.lt_or_ge gl w.heap.size with h | h
      · exact h
      · rw [Array.getElem?_eq_none h] at hg; cases hg
    refine (apart2_any (fun k => k < w.heap.size ∧ ∀ (j : Nat) (u : Value), vs[j]? = some u → u.ownBlock ≠ some k) (older w B) gl 0 cap F.length (fun j => vs.getD j .nilIface) (fun j => F.getD j []) w hbB
      ⟨fun j hj => by rw [hz]; exact hL.bag.own j _ _ (hv j hj) (hc j hj), fun j hj => ?_⟩ hn (fun j hj => hl _ (List.mem_of_getElem? (hc j hj))) hlt
      (fun i j hi hj hij => hL.bag.sep i j _ _ hij (hv i hi) (hv j hj)) (fun j hj => (hL.sep j _ (hv j hj)).symm) (fun k hk => hk.1) (fun j hj g hg hd => hd.2 j _ (hv j hj) hg)).mono ?_
    · obtain ⟨q', cap', g', off', e', -, -, hp', -, hr'⟩ := hL.ls.open
      cases e'
      have := hp' (by omega)
      cases this
      exact hr' j _ (hv j hj)
    · rintro e w' ⟨h1, h2, h3⟩
      exact ⟨h1, h2.os, h2.tape, h2.output, h3.size, fun k hk hj => h3.blk k ⟨hk, hj⟩⟩
end Go.Proofs.Ytalbiggmmmkclaa
namespace Go.Proofs.Ytalbiggmmmkclaa
open Go.RowKit
set_option linter.unusedVariables false
set_option maxRecDepth 100000

theorem skipH {P : Program} {md : Region.Mode} {ops : Array Oper} {Q : Exit → Act → World → Prop} {S : World → Prop} {i : Nat} {oi : Oper} {fuel : Nat} {listed : Array Bool} {a : Act} {w : World} (d : Option Tmp) (hi : ops[i]? = some oi) (hd : oi.dst = d)
    (hs : Region.noSelect ops = true) (hf : Region.free md ops listed i = true) (hr : (Region.ready md ops listed).contains i = true)
    (hQ : ∀ c a w, Q (.panic c) (a.put d undef) w → Q (.panic c) a w) (hw : Region.wanted oi (yielded ops a.tmps) = false) (hS : S w)
    (h : wpAnyH P md ops Q S fuel (listed.setIfInBounds i true) (a.put d undef) w) : wpAnyH P md ops Q S (fuel + 1) listed a w := by
  subst hd
  exact wpAnyH_take hi hs hf hr hQ (Or.inr ⟨hw, rfl⟩) hS h
/-- An Add of any row. -/
def adN (S : TS) (l : List Nat) : Nat := if l.length ≤ 16376 then wrN S (frm l) else 7
def adS (S : TS) (l : List Nat) : TS := if l.length ≤ 16376 then wrS S (frm l) else S
theorem dadd_all (base b d nr ns : Nat) (v x : Value) (m : List Nat) (S : TS) (w : World) (hT : Tp w base b v S) (hst : S.steps < 4611686018427387000) (hD : Blk w d (dcs b nr ns) 80) (hx : Sl w x m) (hb : Byt m) (hm : m.length ≤ 200000000000000) (hnr : nr ≤ 4611686018427387904) (hns : ns ≤ 4611686018427387904) :
    Calls Try.prog 16 #[tptr d, x] w fun e w' => e = .returned (errV (adN S m)) ∧ ∃ v', Tp w' base b v' (adS S m) ∧ Mw b d w w' v v' ∧ (adN S m = 0 → Blk w' d (dcs b (nr + 1) (ns + (8 + m.length))) 80) ∧ (adN S m ≠ 0 → Blk w' d (dcs b nr ns) 80) := by
  unfold adN adS
  by_cases h : m.length ≤ 16376
  · rw [if_pos h, if_pos h]
    exact dadd_any base b d nr ns v x m S w hT hst hD hx hb h hnr hns
  · rw [if_neg h, if_neg h]
    refine (dadd_no _ x m w hx (by omega) hm).mono ?_
    rintro e w' ⟨rfl, h2⟩
    exact ⟨rfl, v, hT.keep h2, mw_below v h2, fun h => (by cases h), fun _ => hD.keep h2⟩
theorem mdadd_all (B r q : Nat) (v : Value) (rs : List (List Nat)) (m : List Nat) (S : TS) (w : World) (hR : Rf w r S) (hw : Wf S) (hst : S.steps < 4611686018427387000) (hM : Blk w q (mcs r v) 56) (ht : Txo w B v rs) (hrs : rs.length ≤ 200000) (hb : Byt m) (hm : m.length ≤ 200000000000000) :
    Calls Try.prog 17 #[tptr q, .string (strB m)] w fun e w' => e = .returned (.int .i64 ((adN S m : Nat) : Int)) ∧ Rf w' r (adS S m) ∧ Mq r q w w' ∧ (adN S m = 0 → ∃ v', Blk w' q (mcs r v') 56 ∧ Txo w' w.heap.size v' (rs ++ [m])) ∧ (adN S m ≠ 0 → Blk w' q (mcs r v) 56) := by
  unfold adN adS
  by_cases h : m.length ≤ 16376
  · rw [if_pos h, if_pos h]
    exact mdadd_any B r q v rs m S w hR hw hst hM ht hrs hb h
  · rw [if_neg h, if_neg h]
    refine (mdadd_no q m w hb (by omega) hm).mono ?_
    rintro e w' ⟨rfl, h2⟩
    exact ⟨rfl, hR.keep h2, mq_below h2, fun h => (by cases h), fun _ => hM.keep h2⟩
theorem iv_ad {S : TS} (h : Iv S) (hw : Wf S) {m : List Nat} (hb : Byt m) : Iv (adS S m) ∧ S.sure ≤ (adS S m).sure ∧ (adN S m = 0 → m.length ≤ 16376 ∧ S.sure + (8 + m.length) ≤ (adS S m).sure) := by
  unfold adN adS
  by_cases h1 : m.length ≤ 16376
  · rw [if_pos h1, if_pos h1]
    have h9 := iv_wr h hw (frm_byt hb)
    refine ⟨h9.1, h9.2.1, fun h0 => ⟨h1, ?_⟩⟩
    have := h9.2.2 h0
    rw [frm_len] at this
    omega
  · rw [if_neg h1, if_neg h1]
    exact ⟨h, Nat.le_refl _, fun h => by cases h⟩
theorem steps_wr3 (S : TS) (m : List Nat) : (wrS S m).steps ≤ S.steps + 3 := by
  have h1 := steps_ap S m
  have h2 := steps_sy (apS S m)
  have h3 := steps_ct (syS (apS S m))
  have h4 := steps_ct (apS S m)
  unfold wrS
  split
  · split <;> omega
  · split <;> omega
theorem steps_ad (S : TS) (m : List Nat) : (adS S m).steps ≤ S.steps + 3 := by
  unfold adS
  split
  · exact steps_wr3 S _
  · omega
theorem steps_rw3 (S : TS) (ls : List (List Nat)) : (rwS S ls).steps ≤ S.steps + 3 := by
  have h1 := steps_rp S (frms ls)
  unfold rwS
  split <;> omega
/-- The diary and the document's one: both are there, with the same rows, or neither. -/
def Dp (W : World) (A b r : Nat) (S : TS) (dv mv : Value) : Prop := (dv = .pointer none ∧ mv = .pointer none) ∨ ∃ dd mm vr rs, dv = tptr dd ∧ mv = tptr mm ∧ A ≤ dd ∧ A ≤ mm ∧ Blk W dd (dcs b rs.length (spN rs)) 80 ∧ Blk W mm (mcs r vr) 56 ∧ Txo W A vr rs ∧ Rok rs ∧ spN rs ≤ S.sure
theorem Dp.at {W W' : World} {A b r : Nat} {S S' : TS} {dv mv : Value} (h : Dp W A b r S dv mv) (hs : S.sure ≤ S'.sure) (hd : ∀ k xs, Blk W k xs 80 → Blk W' k xs 80) (hm : ∀ k xs, Blk W k xs 56 → Blk W' k xs 56) (ht : ∀ v n xs, W.ownsRow A 9 1 v n xs → W'.ownsRow A 9 1 v n xs) : Dp W' A b r S' dv mv := by
  rcases h with h | ⟨dd, mm, vr, rs, h1, h2, h3, h4, h5, h6, h7, h8, h9⟩
  · exact .inl h
  · exact .inr ⟨dd, mm, vr, rs, h1, h2, h3, h4, hd _ _ h5, hm _ _ h6, ht _ _ _ h7, h8, Nat.le_trans h9 hs⟩
theorem Dp.keep {W W' : World} {A b r : Nat} {S : TS} {dv mv : Value} (h : Dp W A b r S dv mv) (hb : Below W.heap.size W W') : Dp W' A b r S dv mv :=
  h.at (Nat.le_refl _) (fun _ _ h => h.keep hb) (fun _ _ h => h.keep hb) (fun _ _ _ h => own_keep h hb)
/-- Behind a call of the tape alone. -/
theorem Dp.mv {W W' : World} {A tb b r : Nat} {v v' : Value} {S S1 S' : TS} {dv mv : Value} (h : Dp W A b r S dv mv) (hT : Tp W tb b v S1) (m : Mv b W W' v v') (hs : S.sure ≤ S'.sure) : Dp W' A b r S' dv mv :=
  h.at hs (fun _ _ h => h.mv hT m (by decide) (by decide)) (fun _ _ h => h.mv hT m (by decide) (by decide)) (fun _ _ _ h => own_mv h hT m (by decide) (by decide))
theorem Dp.chg {W W' : World} {A b r g : Nat} {xs : Array Value} {t : TypeId} {S S' : TS} {dv mv : Value} (h : Dp W A b r S dv mv) (hB : Blk W g xs t) (hc : Chg g W W') (h1 : 80 ≠ t) (h2 : 56 ≠ t) (h3 : t ≠ 9) (hs : S.sure ≤ S'.sure) : Dp W' A b r S' dv mv :=
  h.at hs (fun _ _ h => h.chg hc (blk_ne h hB h1)) (fun _ _ h => h.chg hc (blk_ne h hB h2)) (fun _ _ _ h => own_chgT h hc (blk_own h hB h3))
theorem Rf.mw {W W' : World} {tb b d r nr ns : Nat} {v v' : Value} {S S' : TS} (h : Rf W r S) (hT : Tp W tb b v S') (hD : Blk W d (dcs b nr ns) 80) (m : Mw b d W W' v v') : Rf W' r S := by
  obtain ⟨ar, lf, un, hB, h1⟩ := id h
  exact h.at (m.other r hB.lt (blk_ne hB hT.blk (by decide)) (blk_ne hB hD (by decide)) (blk_own hT.own hB (by decide)))
theorem Blk.mwT {W W' : World} {tb b d k nr ns : Nat} {v v' : Value} {S : TS} {xs : Array Value} {t : TypeId} (h : Blk W k xs t) (hT : Tp W tb b v S) (hD : Blk W d (dcs b nr ns) 80) (m : Mw b d W W' v v') (h1 : t ≠ 76) (h2 : t ≠ 80) (h3 : t ≠ 5) : Blk W' k xs t :=
  m.blk h (blk_ne h hT.blk h1) (blk_ne h hD h2) (blk_own hT.own h h3)
theorem Tp.mq {W W' : World} {base b r q : Nat} {v : Value} {S : TS} {ys zs : Array Value} (h : Tp W base b v S) (m : Mq r q W W') (hr : Blk W r ys 29) (hq : Blk W q zs 56) : Tp W' base b v S :=
  ⟨h.ge, m.blk h.blk hr hq (by decide) (by decide), m.own h.own hr hq (by decide) (by decide), h.sure, h.max, h.bo, h.br⟩
theorem Tp.mq1 {W W' : World} {base b r : Nat} {v : Value} {S : TS} {ys : Array Value} (h : Tp W base b v S) (m : Mq r r W W') (hr : Blk W r ys 29) : Tp W' base b v S :=
  ⟨h.ge, m.blk h.blk hr hr (by decide) (by decide), m.own h.own hr hr (by decide) (by decide), h.sure, h.max, h.bo, h.br⟩
theorem Rf.blk {W : World} {r : Nat} {S : TS} (h : Rf W r S) : ∃ xs, Blk W r xs 29 := by
  obtain ⟨ar, lf, un, hB, _⟩ := h
  exact ⟨_, hB⟩
/-- Blocks of other things stay behind Apart. -/
theorem Blk.ma {W W' : World} {B k : Nat} {vs : List Value} {F : List (List Nat)} {xs : Array Value} {t : TypeId} (h : Blk W k xs t) (hB : Bag W B vs F) (m : Ma vs W W') (h1 : t ≠ 5) : Blk W' k xs t := by
  unfold Blk
  rw [m.other k h.lt (fun j u hu => by
    have hj : j < F.length := by rw [← hB.len]; exact (List.getElem?_eq_some_iff.1 hu).1
    exact blk_own (hB.own j u _ hu (List.getElem?_eq_getElem hj)) h h1)]
  exact h
theorem own_ma {W W' : World} {B base e n : Nat} {x : Value} {vs : List Value} {F : List (List Nat)} {xs : List Value} (h : W.ownsRow base e 1 x n xs) (hB : Bag W B vs F) (m : Ma vs W W') (h1 : 5 ≠ e) : W'.ownsRow base e 1 x n xs :=
  own_at h fun g hg => m.other g (h.lt g hg).2 (fun j u hu he => by
    have hj : j < F.length := by rw [← hB.len]; exact (List.getElem?_eq_some_iff.1 hu).1
    exact sep_ty (hB.own j u _ hu (List.getElem?_eq_getElem hj)) h h1 g he hg)
end Go.Proofs.Ytalbiggmmmkclaa
