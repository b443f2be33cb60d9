/-
  estuarynum.Apart: true where each slice is its own.
-/
import Derived.Test.YtalbiggmmmkclaaFrX
namespace Go.Proofs.Ytalbiggmmmkclaa
open Go.RowKit
set_option linter.unusedVariables false

/-- Lists of their own, and the row that holds them. -/
structure Bg (W : World) (base gl off n : Nat) (V : Nat → Value) (c : Nat → List Nat) : Prop where
  own : ∀ j, j < n → Ow W base (V j) (c j)
  row : ∀ j, j < n → W.cell? ⟨gl, off + j, none⟩ = some (V j)
theorem Bg.same {W : World} {base gl off n : Nat} {V : Nat → Value} {c d : Nat → List Nat} (h : Bg W base gl off n V c) (he : ∀ j, j < n → c j = d j) : Bg W base gl off n V d :=
  ⟨fun j hj => by rw [← he j hj]; exact h.own j hj, h.row⟩
/-- The first k marked; of the k-th the first t places. -/
def cI (C : Nat → List Nat) (k t j : Nat) : List Nat := if j < k then mrk j (C j).length else if j = k then mix k t (C k) else C j
theorem cI_next (C : Nat → List Nat) (k j : Nat) : cI C k (C k).length j = cI C (k + 1) 0 j := by
  unfold cI
  by_cases c : j < k
  · rw [if_pos c, if_pos (by omega)]
  · by_cases d : j = k
    · subst d
      rw [if_neg c, if_pos rfl, if_pos (by omega), mix_full]
    · rw [if_neg c, if_neg d, if_neg (by omega)]
      by_cases e : j = k + 1
      · subst e; rw [if_pos rfl, mix_zero]
      · rw [if_neg e]
theorem Bg.store {W : World} {base gl off n k t g cap : Nat} {V : Nat → Value} {C : Nat → List Nat} (h : Bg W base gl off n V (cI C k t)) (hk : k < n) (ht : t < (C k).length) (hv : V k = .slice (some ⟨g, 0, none⟩) (C k).length cap) (hs : ∀ i, i < n → i ≠ k → Sep (V i) (V k)) (hg : gl ≠ g) :
    Bg (W.setCell ⟨g, t, none⟩ (.int .u8 ((mk1 k t : Nat) : Int))) base gl off n V (cI C k (t + 1)) := by
  have hO := h.own k hk
  have e : cI C k t k = mix k t (C k) := by unfold cI; rw [if_neg (by omega), if_pos rfl]
  rw [e, hv] at hO
  have hO2 : W.ownsRow base 5 1 (.slice (some ⟨g, 0, none⟩) (C k).length cap) (C k).length (bys (mix k t (C k))) := by
    unfold Ow at hO
    rwa [mix_len k t (C k) (by omega)] at hO
  obtain ⟨h1, h2⟩ := hO2.stored t (.int .u8 ((mk1 k t : Nat) : Int))
  rw [bys_set, mix_set k t (C k) ht] at h1
  refine ⟨fun j hj => ?_, fun j hj => h2.cell (h.row j hj) (fun e => hg (by simpa using e))⟩
  by_cases c : j = k
  · subst c
    have e2 : cI C j (t + 1) j = mix j (t + 1) (C j) := by unfold cI; rw [if_neg (by omega), if_pos rfl]
    rw [e2, hv]
    exact ow_of h1
  · have e2 : cI C k (t + 1) j = cI C k t j := by unfold cI; rw [if_neg c, if_neg c]
    rw [e2]
    have hsj := hs j hj c
    rw [hv] at hsj
    exact (h.own j hj).kept (x := .slice (some ⟨g, 0, none⟩) (C k).length cap) h2 hsj
theorem bsl0 (w : World) : (Instr.buildSlice 31 0 #[]).run Try.prog w = .ok (.slice (some ⟨w.heap.size, 0, none⟩) 0 0) (w.alloc (.cells #[] 39)) := by kernel_rfl
section
variable {ops : Array Oper} {rest : List Oper} {o : Oper} {a : Act} {w : World} {Q : Exit → Act → World → Prop}
/-- '[][]byte{}'. -/
theorem bs_l0 (A : World) (hA : A.heap.size ≤ w.heap.size) (hw : Region.wanted o (yielded ops a.tmps) = true) (ho : o.op = .buildSlice 31 0 #[])
    (h : ∀ W', W'.ownsRow A.heap.size 39 1 (.slice (some ⟨w.heap.size, 0, none⟩) 0 0) 0 [] → Below w.heap.size w W' → wpList Try.prog ops Q rest (a.put o.dst (.slice (some ⟨w.heap.size, 0, none⟩) 0 0)) W') : wpList Try.prog ops Q (o :: rest) a w := by
  unfold wpList
  rw [if_pos hw]
  left
  unfold Oper.wp execOp
  have hl : (#[] : Array (Nat × Operand)).map (fun (i, x) => (i, a.eval x)) = #[] := by simp
  simp only [ho, Sem.run_bind, hl, bsl0, Result.andThen_ok]
  exact h _ (own_empty w A 39 1 hA) ((Below.refl _ _).alloc (Nat.le_refl _) _)
end
/-- What was read is read, where the list that grew out of it grows on. -/
theorem rd_step {W W' : World} {base k m t : Nat} {v x x' : Value} (hs : Shp v m) (hv : Sl W v (mrk k m)) (hO : Ow W' base x' (mrk k (m + t))) (hg : W.grownBy W' x.ownBlock) (hat : x'.ownBlock = x.ownBlock ∨ x'.ownBlock = some W.heap.size ∧ W.grownBy W' none) : Sl W' v (mrk k m) := by
  rcases hs with ⟨rfl, rfl⟩ | ⟨g, cap, rfl, hc, hm⟩
  · exact sl_nil W'
  · by_cases c : x.ownBlock = some g
    · rcases hat with e | ⟨_, e⟩
      · exact sl_pre hO (e.trans c) (by omega) hc hm
      · exact sl_kept (x := .slice none 0 0) hv (fun b hb he => by cases he) e
    · refine sl_kept (x := x) hv (fun b hb he => ?_) hg
      simp [Value.ownBlock] at hb
      exact c (by rw [he, hb])

/-- How long a slice is. -/
def slLen2 : Value → Nat
  | .slice _ n _ => n
  | _ => 0
set_option maxRecDepth 100000 in
set_option maxHeartbeats 2000000 in
theorem apart_any (A : World) (gl off cap n : Nat) (V : Nat → Value) (C : Nat → List Nat) (w : World) (hA : Below A.heap.size A w) (hB : Bg w A.heap.size gl off n V C) (hn : n ≤ 200000) (hlen : ∀ j, j < n → (C j).length ≤ 110000) (hgl : gl < w.heap.size)
    (hsep : ∀ i j, i < n → j < n → i ≠ j → Sep (V i) (V j)) (hsg : ∀ j, j < n → Sep (.slice (some ⟨gl, off, none⟩) n cap) (V j)) :
    Calls Try.prog 28 #[.slice (some ⟨gl, off, none⟩) n cap] w fun e w' => e = .returned (.bool true) ∧ Below A.heap.size A w' := by
  go_enter Try.func28, Try.ntmps28
  go_wp2_with fail
  go_loopw [15] (fun i wr => ∃ k : Nat, k ≤ n ∧ i = .int .i64 (k : Int) ∧ Bg wr A.heap.size gl off n V (cI C k 0) ∧ gl < wr.heap.size ∧ Below A.heap.size A wr) (fun i _ => n - (intOf i).toNat)
  case atStart =>
    refine ⟨0, by omega, rfl, hB.same (fun j hj => ?_), hgl, hA⟩
    unfold cI
    rw [if_neg (by omega)]
    by_cases c : j = 0
    · subst c; rw [if_pos rfl, mix_zero]
    · rw [if_neg c]
  case round =>
    clear hB hA hgl
    obtain ⟨k, hk, rfl, HB, hgl, hA⟩ := hrel
    by_cases c : k = n
    · have hki : ¬ (k : Int) < (n : Int) := by omega
      have HB2 := HB.same (fun j hj => show cI C k 0 j = mrk j (C j).length by unfold cI; rw [if_pos (by omega)])
      clear HB
      go_upto_region 11 with (refine bs_l0 A hA.size rfl rfl ?_; intro W1 hown1 hb1)
      have HG : Gr W1 A.heap.size (.slice (some ⟨gl, off, none⟩) n cap) (.slice (some ⟨wr.heap.size, 0, none⟩) 0 0) n 0 0 V (fun _ => .slice none 0 0) (fun j => (C j).length) :=
        ⟨fun j _ hj => (HB2.own j hj).keep hb1, fun j h => absurd h (by omega), fun j h => absurd h (by omega), fun j hj b hb => Nat.lt_of_lt_of_le ((HB2.own j hj).lt b hb).2 hb1.size, hsep, fun i j h => absurd h (by omega), fun i j h => absurd h (by omega),
          fun j hj => (sep_lt (fun b hb => ((HB2.own j hj).lt b hb).2) (fun b hb => by simp [Value.ownBlock] at hb; omega)).symm, fun j h => absurd h (by omega), hsg, fun j h => absurd h (by omega), fun b hb he => by simp [Value.ownBlock] at hb he; omega⟩
      have HR : ∀ j, j < n → W1.cell? ⟨gl, off + j, none⟩ = some (V j) := fun j hj => keep_cell hb1 (HB2.row j hj) hgl
      have hgl1 := Nat.lt_of_lt_of_le hgl hb1.size
      have hA1 := ab_trans hA hb1
      clear HB2 hb1 hgl hA hsg hsep
      go_wp2_with fail
      go_loopw [6, 40] (fun y i wr' => ∃ (k : Nat) (U : Nat → Value) (us : List Value), k ≤ n ∧ i = .int .i64 (k : Int) ∧ Gr wr' A.heap.size (.slice (some ⟨gl, off, none⟩) n cap) y n k k V U (fun j => (C j).length) ∧ wr'.ownsRow A.heap.size 39 1 y k us ∧ (∀ j, j < k → us[j]? = some (U j)) ∧ (∀ j, j < n → wr'.cell? ⟨gl, off + j, none⟩ = some (V j)) ∧ gl < wr'.heap.size ∧ Below A.heap.size A wr') (fun _ i _ => n - (intOf i).toNat)
      case atStart => exact ⟨0, _, [], by omega, rfl, HG, hown1, fun j h => absurd h (by omega), HR, hgl1, hA1⟩
      case round =>
        clear HG hown1 HR hgl1 hA1 c hki hk
        obtain ⟨k, U, us, hk, rfl, HG, hown, HU, HR, hgl, hA⟩ := hrel
        by_cases c : k = n
        · have hki : ¬ (k : Int) < (n : Int) := by omega
          obtain ⟨h1, qy, gy, capy, ey, hpy, hgy, -, -, hcy, hmy, hcells, -⟩ := own_open hown (by omega)
          subst ey
          have HUc : Hid (∀ j, j < k → wr.cell? ⟨gy, j, none⟩ = some (U j)) := fun j hj => hcells j _ (HU j hj)
          have HUs : Hid (∀ j, j < k → Sl wr (U j) (mrk j ((C j).length + 10))) := fun j hj => (HG.grw j hj).sl
          have HVs : Hid (∀ j, j < n → Sl wr (V j) (mrk j (C j).length)) := fun j hj => HG.rd j (by omega) hj
          have HR' : Hid (∀ j, j < n → wr.cell? ⟨gl, off + j, none⟩ = some (V j)) := HR
          clear HR HU HG hown hcells
          obtain ⟨Wf, hWf⟩ : ∃ Wf, Wf = wr := ⟨_, rfl⟩
          subst hWf
          go_wp2_with fail
          go_loopw [70] (fun i wr' => ∃ b : Nat, b ≤ k ∧ i = .int .i64 (b : Int) ∧ Below Wf.heap.size Wf wr') (fun i _ => k - (intOf i).toNat)
          case atStart => exact ⟨0, by omega, rfl, Below.refl _ _⟩
          case round =>
            obtain ⟨b, hbk, rfl, hbw⟩ := hrel
            by_cases c2 : b = k
            · have hbi : ¬ (b : Int) < (k : Int) := by omega
              go_wp2_with fail
              go_ret
              exact ⟨rfl, ab_trans hA hbw⟩
            · have hbk2 : b < k := by omega
              have hbi : (b : Int) < (k : Int) := by omega
              have hbn : b < n := by omega
              have dU := keep_cell hbw (HUc.out b hbk2) (hgy (by omega))
              obtain rfl := hpy (by omega)
              have hl5 := hlen b hbn
              obtain ⟨qu, cu, gu, ou, eu, -, -, hpu, hgu, hru⟩ := (HUs.out b hbk2).open
              obtain ⟨qv, cv, gv, ov, ev, -, -, hpv, hgv, hrv⟩ := (HVs.out b hbn).open
              rw [mrk_len] at eu hpu hgu ev hpv hgv
              obtain rfl := hpu (by omega)
              have hgu1 := hgu (by omega)
              rw [eu] at dU
              have HBU : Hid (BRow Wf gu ou (mrk b ((C b).length + 10))) := hru
              have HBV : Hid (BRow Wf gv ov (mrk b (C b).length)) := hrv
              have HEv : Hid (V b = .slice qv (C b).length cv) := ev
              have HEu : Hid (U b = .slice (some ⟨gu, ou, none⟩) ((C b).length + 10) cu) := eu
              clear hru hrv ev eu hpu hgu
              generalize hm : (C b).length = m at *
              go_wp2_with fail
              go_loopw [77] (fun i wr' => ∃ j : Nat, j ≤ m + 10 ∧ i = .int .i64 (j : Int) ∧ Below Wf.heap.size Wf wr') (fun i _ => m + 10 - (intOf i).toNat)
              case atStart => exact ⟨0, by omega, rfl, hbw⟩
              case round =>
                clear hbw dU
                obtain ⟨j, hj, rfl, hbw⟩ := hrel
                by_cases c3 : j = m + 10
                · subst c3
                  go_wp2_with fail
                  exact ⟨⟨b + 1, by omega, rfl, hbw⟩, by simp only [intOf]; omega⟩
                · have hjm : j < m + 10 := by omega
                  have hji : (j : Int) < (m : Int) + 10 := by omega
                  have dUj := keep_cell hbw (HBU.out j _ (mrk_at b (m + 10) j hjm)) hgu1
                  have dVb := keep_cell hbw (HR'.out b hbn) hgl
                  rw [HEv.out] at dVb
                  have hmk := mk1_cast b j
                  have hmb := mk1_lt b j
                  have hne : ((mk1 b j : Int) != (mk1 b j : Int)) = false := by simp
                  have x1 := cls_cell dUj (Nat.lt_of_lt_of_le hgu1 hbw.size)
                  have x2 := cls_cell dVb (Nat.lt_of_lt_of_le hgl hbw.size)
                  by_cases c4 : j < m
                  · have c4' : (j : Int) < (m : Int) := by omega
                    obtain rfl := hpv (by omega)
                    have hgv1 := hgv (by omega)
                    have dVj := keep_cell hbw (HBV.out j _ (mrk_at b m j c4)) hgv1
                    have x3 := cls_cell dVj (Nat.lt_of_lt_of_le hgv1 hbw.size)
                    go_upto_region 25 with fail
                    refine wp_region_below (by kernel_rfl) (by kernel_rfl) ?_
                    have HZ := cls_some wr
                    repeat (go_big_quiet_step (fail))
                    refine wpQuiet_nil ?_
                    rintro _ ⟨y, rfl⟩
                    obtain ⟨W9, hb9⟩ := y
                    dsimp only
                    clear x1 x2 x3 HZ dUj dVb dVj
                    go_wp2_with fail
                    exact ⟨⟨j + 1, by omega, rfl, ab_trans hbw hb9⟩, by simp only [intOf]; omega⟩
                  · have c4' : ¬ (j : Int) < (m : Int) := by omega
                    go_upto_region 25 with fail
                    refine wp_region_below (by kernel_rfl) (by kernel_rfl) ?_
                    have HZ := cls_some wr
                    repeat (go_big_quiet_step (fail))
                    refine wpQuiet_nil ?_
                    rintro _ ⟨y, rfl⟩
                    obtain ⟨W9, hb9⟩ := y
                    dsimp only
                    clear x1 x2 HZ dUj dVb
                    go_wp2_with fail
                    exact ⟨⟨j + 1, by omega, rfl, ab_trans hbw hb9⟩, by simp only [intOf]; omega⟩
        · have hkn : k < n := by omega
          have hki : (k : Int) < (n : Int) := by omega
          have d := HR k hkn
          have hO := HG.own k (Nat.le_refl _) hkn
          have hl5 := hlen k hkn
          have hshp := hO.shp
          rw [mrk_len] at hshp
          have HG1 := HG.next
          have HA1 : Apt (.slice (some ⟨gl, off, none⟩) n cap) u6 (V k) n k k V U := ⟨fun j h1 h2 => HG.vv j k h1 hkn h2, fun j h1 => HG.uv j k h1 hkn (by omega), HG.yv k hkn, HG.gw k hkn⟩
          obtain ⟨qk, capk, ev⟩ := hO.form
          rw [mrk_len] at ev
          have HOk : Ow wr A.heap.size (V k) (mrk k ((C k).length + 0)) := hO
          have HShp : Hid (Shp (V k) (C k).length) := hshp
          clear hO hshp HG
          rw [ev] at d
          rw [ev] at HOk HA1
          have HEV : Hid (V k = .slice qk (C k).length capk) := ev
          clear ev
          generalize hm : (C k).length = m at *
          have HR' : Hid (∀ j, j < n → wr.cell? ⟨gl, off + j, none⟩ = some (V j)) := HR
          have HU' : Hid (∀ j, j < k → us[j]? = some (U j)) := HU
          clear HR HU
          go_wp2_with fail
          go_loopw [8] (fun x wr' => ∃ t : Nat, t ≤ 10 ∧ Ow wr' A.heap.size x (mrk k (m + t)) ∧ Apt (.slice (some ⟨gl, off, none⟩) n cap) u6 x n k k V U ∧ Gr wr' A.heap.size (.slice (some ⟨gl, off, none⟩) n cap) u6 n (k + 1) k V U (fun j => (C j).length) ∧ wr'.ownsRow A.heap.size 39 1 u6 k us ∧ Hid (∀ j, j < n → wr'.cell? ⟨gl, off + j, none⟩ = some (V j)) ∧ gl < wr'.heap.size ∧ Below A.heap.size A wr') (fun x _ => m + 10 - slLen2 x)
          case atStart => exact ⟨0, by omega, HOk, HA1, HG1, hown, HR', hgl, hA⟩
          case round =>
            clear HOk HA1 HG1 hown HR' hgl hA d
            obtain ⟨t, ht, HO, HAp, HG, hown, HR, hgl, hA⟩ := hrel
            obtain ⟨qx, capx, ex⟩ := HO.form
            rw [mrk_len] at ex
            subst ex
            by_cases c2 : t = 10
            · subst c2
              go_upto_region 18 with (first
                | (refine bs_ls rfl rfl [_] [mrk k (m + 10)] (by simp only [List.map_toArray, List.map_cons, List.map_nil]; rfl) (bsl1 _ _ _ _) rfl (by decide) rfl (each1 HO.sl) ?_; intro W2 hls2 hb2 hbk2)
                | (at_builtin; refine app1 A rfl rfl rfl (own_keep hown hb2) rfl ⟨_, _, _, rfl⟩ (hbk2.at (i := 0) rfl) (by omega) (ab_trans hA hb2) ?_; intro y3 W3 hown3 hnn3 hb3 hgr3 hat3))
              have hgr4 : W2.grownBy W3 u6.ownBlock := hgr3
              have hat4 : y3.ownBlock = u6.ownBlock ∨ y3.ownBlock = some W2.heap.size := hat3
              have hgl2 := Nat.lt_of_lt_of_le hgl hb2.size
              have HO2 : Ow W2 A.heap.size (.slice qx (m + 10) capx) (mrk k ((fun j => (C j).length) k + 10)) := by show Ow _ _ _ (mrk k ((C k).length + 10)); rw [hm]; exact HO.keep hb2
              have HGn := (HG.keep hb2).put HAp HO2 hgr4 hat4 (fun b hb => by simp [Value.ownBlock] at hb; omega)
              have hul : us.length = k := by have := hown.1; omega
              have HUn : ∀ j, j < k + 1 → (us ++ [.slice qx (m + 10) capx])[j]? = some (if j = k then .slice qx (m + 10) capx else U j) := fun j hj => by
                by_cases c3 : j = k
                · rw [if_pos c3, List.getElem?_append_right (by omega)]; simp [hul, c3]
                · rw [if_neg c3, List.getElem?_append_left (by omega)]; exact HU'.out j (by omega)
              have HRn : ∀ j, j < n → W3.cell? ⟨gl, off + j, none⟩ = some (V j) := fun j hj => hgr4.cell (keep_cell hb2 (HR.out j hj) hgl) (fun e => HG.gy gl rfl e.symm)
              have HRh : Hid (∀ j, j < n → W3.cell? ⟨gl, off + j, none⟩ = some (V j)) := HRn
              have HUh : Hid (∀ j, j < k + 1 → (us ++ [.slice qx (m + 10) capx])[j]? = some (if j = k then .slice qx (m + 10) capx else U j)) := HUn
              clear hgr3 hat3 HO2 HG HO hown HR HRn HUn hls2 hbk2
              go_wp2_with fail
              exact ⟨⟨k + 1, _, _, by omega, rfl, HGn, hown3, HUh.out, HRh.out, Nat.lt_of_lt_of_le hgl2 hgr4.size, hb3⟩, by simp only [intOf]; omega⟩
            · have hki2 : (m : Int) + (t : Int) < (m : Int) + 10 := by omega
              have hkn2 : m + t < m + 10 := by omega
              have hmk := mk1_cast k (m + t)
              go_wp2_with (first
                | (refine bs_by rfl rfl [mk1 k (m + t)] (vs := #[(0, .int .u8 ((mk1 k (m + t) : Nat) : Int))]) (by simp only [List.map_toArray, List.map_cons, List.map_nil]; rfl) (bsb1 _ _) rfl (by decide) ?_; intro W2 hN2 hb2 z2)
                | (at_builtin; refine app_by2 A rfl rfl rfl (HO.keep hb2) rfl (own_sl hN2).2 rfl (by rw [mrk_len]; show m + t + 1 ≤ _; omega) (ab_trans hA hb2) ?_; intro x3 W3 hown3 hb3 hgr3 hat3))
              have HO3 : Ow W3 A.heap.size x3 (mrk k (m + (t + 1))) := ow_of hown3
              have hg3 : W2.grownBy W3 (Value.slice qx (m + t) capx).ownBlock := hgr3
              have hat4 : x3.ownBlock = (Value.slice qx (m + t) capx).ownBlock ∨ x3.ownBlock = some W2.heap.size ∧ W2.grownBy W3 none := hat3
              have HG2 := HG.keep hb2
              have hgl2 := Nat.lt_of_lt_of_le hgl hb2.size
              have hyo := own_keep hown hb2
              have hrdk := HG2.rd k (by omega) hkn
              have hrd3 : Sl W3 (V k) (mrk k (C k).length) := by
                have h1 : Sl W2 (V k) (mrk k (C k).length) := hrdk
                rw [hm] at h1 ⊢
                exact rd_step HShp.out h1 HO3 hg3 hat4
              have HG3 := HG2.kept HAp hg3 (fun _ => hrd3)
              have HA3 := HAp.at HG2 (fun b hb => (hyo.lt b hb).2) (fun b hb => by simp [Value.ownBlock] at hb; omega) (hat4.imp id (fun h => h.1))
              have HR3 : Hid (∀ j, j < n → W3.cell? ⟨gl, off + j, none⟩ = some (V j)) := fun j hj => hg3.cell (keep_cell hb2 (HR.out j hj) hgl) (fun e => HAp.g gl rfl e.symm)
              refine ⟨⟨t + 1, by omega, HO3, HA3, HG3, World.ownsRow.kept hyo hg3 HAp.y.row, HR3, Nat.lt_of_lt_of_le hgl2 hg3.size, hb3⟩, ?_⟩
              obtain ⟨q4, c4, e4⟩ := HO3.form
              rw [e4, mrk_len]
              simp only [slLen2]
              omega
    · have hkn : k < n := by omega
      have hki : (k : Int) < (n : Int) := by omega
      have d := HB.row k hkn
      have hl5 := hlen k hkn
      have hO := HB.own k hkn
      have eC : cI C k 0 k = C k := by unfold cI; rw [if_neg (by omega), if_pos rfl, mix_zero]
      rw [eC] at hO
      have hshp := hO.shp
      have hwb := hO.lt
      obtain ⟨qk, capk, ev⟩ := hO.form
      have HEV : Hid (V k = .slice qk (C k).length capk) := ev
      rw [ev] at d
      generalize hm : (C k).length = m at *
      clear hO eC
      go_wp2_with fail
      go_loopw [22] (fun i wr' => ∃ t : Nat, t ≤ m ∧ i = .int .i64 (t : Int) ∧ Bg wr' A.heap.size gl off n V (cI C k t) ∧ gl < wr'.heap.size ∧ Below A.heap.size A wr') (fun i _ => m - (intOf i).toNat)
      case atStart => exact ⟨0, by omega, rfl, HB, hgl, hA⟩
      case round =>
        clear HB hgl hA d
        obtain ⟨t, ht, rfl, HB, hgl, hA⟩ := hrel
        by_cases c2 : t = m
        · have HB2 := HB.same (fun j _ => show cI C k t j = cI C (k + 1) 0 j by rw [c2, ← hm]; exact cI_next C k j)
          clear HB
          subst c2
          go_wp2_with fail
          exact ⟨⟨k + 1, by omega, rfl, HB2, hgl, hA⟩, by simp only [intOf]; omega⟩
        · rcases hshp with ⟨_, h0⟩ | ⟨g, cap2, e2, _, _⟩
          · omega
          · rw [HEV.out] at e2
            cases e2
            have htm : t < m := by omega
            have hti : (t : Int) < (m : Int) := by omega
            have hbg := hwb g (by rw [HEV.out]; rfl)
            have hO2 := HB.own k hkn
            have eC : cI C k t k = mix k t (C k) := by unfold cI; rw [if_neg (by omega), if_pos rfl]
            rw [eC, HEV.out] at hO2
            have hO3 : wr.ownsRow A.heap.size 5 1 (.slice (some ⟨g, 0, none⟩) m capk) m (bys (mix k t (C k))) := by
              unfold Ow at hO2
              rwa [mix_len k t (C k) (by omega), hm] at hO2
            have hfz := hO3.frozenAt t
            obtain ⟨z, hz⟩ : ∃ z, (mix k t (C k))[t]? = some z := ⟨_, List.getElem?_eq_getElem (by rw [mix_len k t (C k) (by omega)]; omega)⟩
            have hcl := hO3.cellAt t (by omega)
            rw [bys_at, hz, Option.map_some] at hcl
            have hgg : gl ≠ g := fun e => by
              have := hsg k hkn gl rfl
              rw [HEV.out] at this
              exact this (by rw [e]; rfl)
            have hmk := mk1_cast k t
            have HST : Hid (Bg (wr.setCell ⟨g, t, none⟩ (.int .u8 ((mk1 k t : Nat) : Int))) A.heap.size gl off n V (cI C k (t + 1))) := HB.store hkn (by omega) (by rw [hm]; exact HEV.out) (fun i h1 h2 => hsep i k h1 hkn h2) hgg
            have HBL : Hid (Below A.heap.size A (wr.setCell ⟨g, t, none⟩ (.int .u8 ((mk1 k t : Nat) : Int)))) := ab_set hA hbg.1 _
            clear HB hO2 hO3 eC hz
            go_wp2_with fail
            exact ⟨⟨t + 1, by omega, rfl, HST.out, by simpa using hgl, HBL.out⟩, by simp only [intOf]; omega⟩
end Go.Proofs.Ytalbiggmmmkclaa
