/-
  estuarynum.Apart: true where each slice is its own.
  estuarynum.Copy and estuarynum.Kept.
  estuarynum.Over; both tapes side by side; Mw: nothing but the tape's memory and block r has turned.
  estuarylaw06.play: one call by both tapes.
-/
import Derived.Test.YtalbiggmmmkclaaPk09
import Derived.Deep.CutRange
import Derived.Deep.CutBlock
namespace Go.Proofs.Ytalbiggmmmkclaa
open Go.RowKit
set_option linter.unusedVariables false

/-- Lists of their own, and the row that holds them. -/
structure Bg (W : World) (base gl off n : Nat) (V : Nat → Value) (c : Nat → List Nat) : Prop where
  own : ∀ j, j < n → Ow W base (V j) (c j)
  row : ∀ j, j < n → W.cell? ⟨gl, off + j, none⟩ = some (V j)
theorem Bg.same {W : World} {base gl off n : Nat} {V : Nat → Value} {c d : Nat → List Nat} (h : Bg W base gl off n V c) (he : ∀ j, j < n → c j = d j) : Bg W base gl off n V d :=
  ⟨fun j hj => by rw [← he j hj]; exact h.own j hj, h.row⟩
/-- The first k marked; of the k-th the first t places. -/
def cI (C : Nat → List Nat) (k t j : Nat) : List Nat := if j < k then mrk j (C j).length else if j = k then mix k t (C k) else C j
theorem cI_next (C : Nat → List Nat) (k j : Nat) : cI C k (C k).length j = cI C (k + 1) 0 j := by
  unfold cI
  by_cases c : j < k
  · rw [if_pos c, if_pos (by omega)]
  · by_cases d : j = k
    · subst d
      rw [if_neg c, if_pos rfl, if_pos (by omega), mix_full]
    · rw [if_neg c, if_neg d, if_neg (by omega)]
      by_cases e : j = k + 1
      · subst e; rw [if_pos rfl, mix_zero]
      · rw [if_neg e]
theorem Bg.store {W : World} {base gl off n k t g cap : Nat} {V : Nat → Value} {C : Nat → List Nat} (h : Bg W base gl off n V (cI C k t)) (hk : k < n) (ht : t < (C k).length) (hv : V k = .slice (some ⟨g, 0, none⟩) (C k).length cap) (hs : ∀ i, i < n → i ≠ k → Sep (V i) (V k)) (hg : gl ≠ g) :
    Bg (W.setCell ⟨g, t, none⟩ (.int .u8 ((mk1 k t : Nat) : Int))) base gl off n V (cI C k (t + 1)) := by
  have hO := h.own k hk
  have e : cI C k t k = mix k t (C k) := by unfold cI; rw [if_neg (by omega), if_pos rfl]
  rw [e, hv] at hO
  have hO2 : W.ownsRow base 5 1 (.slice (some ⟨g, 0, none⟩) (C k).length cap) (C k).length (bys (mix k t (C k))) := by
    unfold Ow at hO
    rwa [mix_len k t (C k) (by omega)] at hO
  obtain ⟨h1, h2⟩ := hO2.stored t (.int .u8 ((mk1 k t : Nat) : Int))
  rw [bys_set, mix_set k t (C k) ht] at h1
  refine ⟨fun j hj => ?_, fun j hj => h2.cell (h.row j hj) (fun e => hg (by simpa using e))⟩
  by_cases c : j = k
  · subst c
    have e2 : cI C j (t + 1) j = mix j (t + 1) (C j) := by unfold cI; rw [if_neg (by omega), if_pos rfl]
    rw [e2, hv]
    exact ow_of h1
  · have e2 : cI C k (t + 1) j = cI C k t j := by unfold cI; rw [if_neg c, if_neg c]
    rw [e2]
    have hsj := hs j hj c
    rw [hv] at hsj
    exact (h.own j hj).kept (x := .slice (some ⟨g, 0, none⟩) (C k).length cap) h2 hsj
theorem bsl0 (w : World) : (Instr.buildSlice 31 0 #[]).run Try.prog w = .ok (.slice (some ⟨w.heap.size, 0, none⟩) 0 0) (w.alloc (.cells #[] 39)) := by kernel_rfl
section
variable {ops : Array Oper} {rest : List Oper} {o : Oper} {a : Act} {w : World} {Q : Exit → Act → World → Prop}
/-- '[][]byte{}'. -/
theorem bs_l0 (A : World) (hA : A.heap.size ≤ w.heap.size) (hw : Region.wanted o (yielded ops a.tmps) = true) (ho : o.op = .buildSlice 31 0 #[])
    (h : ∀ W', W'.ownsRow A.heap.size 39 1 (.slice (some ⟨w.heap.size, 0, none⟩) 0 0) 0 [] → Below w.heap.size w W' → wpList Try.prog ops Q rest (a.put o.dst (.slice (some ⟨w.heap.size, 0, none⟩) 0 0)) W') : wpList Try.prog ops Q (o :: rest) a w := by
  unfold wpList
  rw [if_pos hw]
  left
  unfold Oper.wp execOp
  have hl : (#[] : Array (Nat × Operand)).map (fun (i, x) => (i, a.eval x)) = #[] := by simp
  simp only [ho, Sem.run_bind, hl, bsl0, Result.andThen_ok]
  exact h _ (own_empty w A 39 1 hA) ((Below.refl _ _).alloc (Nat.le_refl _) _)
end
/-- What was read is read, where the list that grew out of it grows on. -/
theorem rd_step {W W' : World} {base k m t : Nat} {v x x' : Value} (hs : Shp v m) (hv : Sl W v (mrk k m)) (hO : Ow W' base x' (mrk k (m + t))) (hg : W.grownBy W' x.ownBlock) (hat : x'.ownBlock = x.ownBlock ∨ x'.ownBlock = some W.heap.size ∧ W.grownBy W' none) : Sl W' v (mrk k m) := by
  rcases hs with ⟨rfl, rfl⟩ | ⟨g, cap, rfl, hc, hm⟩
  · exact sl_nil W'
  · by_cases c : x.ownBlock = some g
    · rcases hat with e | ⟨_, e⟩
      · exact sl_pre hO (e.trans c) (by omega) hc hm
      · exact sl_kept (x := .slice none 0 0) hv (fun b hb he => by cases he) e
    · refine sl_kept (x := x) hv (fun b hb he => ?_) hg
      simp [Value.ownBlock] at hb
      exact c (by rw [he, hb])

/-- How long a slice is. -/
def slLen2 : Value → Nat
  | .slice _ n _ => n
  | _ => 0
set_option maxRecDepth 100000 in
set_option maxHeartbeats 2000000 in
theorem apart_any (A : World) (gl off cap n : Nat) (V : Nat → Value) (C : Nat → List Nat) (w : World) (hA : Below A.heap.size A w) (hB : Bg w A.heap.size gl off n V C) (hn : n ≤ 200000) (hlen : ∀ j, j < n → (C j).length ≤ 110000) (hgl : gl < w.heap.size)
    (hsep : ∀ i j, i < n → j < n → i ≠ j → Sep (V i) (V j)) (hsg : ∀ j, j < n → Sep (.slice (some ⟨gl, off, none⟩) n cap) (V j)) :
    Calls Try.prog 28 #[.slice (some ⟨gl, off, none⟩) n cap] w fun e w' => e = .returned (.bool true) ∧ Below A.heap.size A w' := by
  go_enter Try.func28, Try.ntmps28
  go_wp2_with fail
  go_loopw [15] (fun i wr => ∃ k : Nat, k ≤ n ∧ i = .int .i64 (k : Int) ∧ Bg wr A.heap.size gl off n V (cI C k 0) ∧ gl < wr.heap.size ∧ Below A.heap.size A wr) (fun i _ => n - (intOf i).toNat)
  case atStart =>
    refine ⟨0, by omega, rfl, hB.same (fun j hj => ?_), hgl, hA⟩
    unfold cI
    rw [if_neg (by omega)]
    by_cases c : j = 0
    · subst c; rw [if_pos rfl, mix_zero]
    · rw [if_neg c]
  case round =>
    clear hB hA hgl
    obtain ⟨k, hk, rfl, HB, hgl, hA⟩ := hrel
    by_cases c : k = n
    · have hki : ¬ (k : Int) < (n : Int) := by omega
      have HB2 := HB.same (fun j hj => show cI C k 0 j = mrk j (C j).length by unfold cI; rw [if_pos (by omega)])
      clear HB
      go_upto_region 11 with (refine bs_l0 A hA.size rfl rfl ?_; intro W1 hown1 hb1)
      have HG : Gr W1 A.heap.size (.slice (some ⟨gl, off, none⟩) n cap) (.slice (some ⟨wr.heap.size, 0, none⟩) 0 0) n 0 0 V (fun _ => .slice none 0 0) (fun j => (C j).length) :=
        ⟨fun j _ hj => (HB2.own j hj).keep hb1, fun j h => absurd h (by omega), fun j h => absurd h (by omega), fun j hj b hb => Nat.lt_of_lt_of_le ((HB2.own j hj).lt b hb).2 hb1.size, hsep, fun i j h => absurd h (by omega), fun i j h => absurd h (by omega),
          fun j hj => (sep_lt (fun b hb => ((HB2.own j hj).lt b hb).2) (fun b hb => by simp [Value.ownBlock] at hb; omega)).symm, fun j h => absurd h (by omega), hsg, fun j h => absurd h (by omega), fun b hb he => by simp [Value.ownBlock] at hb he; omega⟩
      have HR : ∀ j, j < n → W1.cell? ⟨gl, off + j, none⟩ = some (V j) := fun j hj => keep_cell hb1 (HB2.row j hj) hgl
      have hgl1 := Nat.lt_of_lt_of_le hgl hb1.size
      have hA1 := ab_trans hA hb1
      clear HB2 hb1 hgl hA hsg hsep
      go_wp2_with fail
      go_loopw [6, 40] (fun y i wr' => ∃ (k : Nat) (U : Nat → Value) (us : List Value), k ≤ n ∧ i = .int .i64 (k : Int) ∧ Gr wr' A.heap.size (.slice (some ⟨gl, off, none⟩) n cap) y n k k V U (fun j => (C j).length) ∧ wr'.ownsRow A.heap.size 39 1 y k us ∧ (∀ j, j < k → us[j]? = some (U j)) ∧ (∀ j, j < n → wr'.cell? ⟨gl, off + j, none⟩ = some (V j)) ∧ gl < wr'.heap.size ∧ Below A.heap.size A wr') (fun _ i _ => n - (intOf i).toNat)
      case atStart => exact ⟨0, _, [], by omega, rfl, HG, hown1, fun j h => absurd h (by omega), HR, hgl1, hA1⟩
      case round =>
        clear HG hown1 HR hgl1 hA1 c hki hk
        obtain ⟨k, U, us, hk, rfl, HG, hown, HU, HR, hgl, hA⟩ := hrel
        by_cases c : k = n
        · have hki : ¬ (k : Int) < (n : Int) := by omega
          obtain ⟨h1, qy, gy, capy, ey, hpy, hgy, -, -, hcy, hmy, hcells, -⟩ := own_open hown (by omega)
          subst ey
          have HUc : Hid (∀ j, j < k → wr.cell? ⟨gy, j, none⟩ = some (U j)) := fun j hj => hcells j _ (HU j hj)
          have HUs : Hid (∀ j, j < k → Sl wr (U j) (mrk j ((C j).length + 10))) := fun j hj => (HG.grw j hj).sl
          have HVs : Hid (∀ j, j < n → Sl wr (V j) (mrk j (C j).length)) := fun j hj => HG.rd j (by omega) hj
          have HR' : Hid (∀ j, j < n → wr.cell? ⟨gl, off + j, none⟩ = some (V j)) := HR
          clear HR HU HG hown hcells
          obtain ⟨Wf, hWf⟩ : ∃ Wf, Wf = wr := ⟨_, rfl⟩
          subst hWf
          go_wp2_with fail
          go_loopw [70] (fun i wr' => ∃ b : Nat, b ≤ k ∧ i = .int .i64 (b : Int) ∧ Below Wf.heap.size Wf wr') (fun i _ => k - (intOf i).toNat)
          case atStart => exact ⟨0, by omega, rfl, Below.refl _ _⟩
          case round =>
            obtain ⟨b, hbk, rfl, hbw⟩ := hrel
            by_cases c2 : b = k
            · have hbi : ¬ (b : Int) < (k : Int) := by omega
              go_wp2_with fail
              go_ret
              exact ⟨rfl, ab_trans hA hbw⟩
            · have hbk2 : b < k := by omega
              have hbi : (b : Int) < (k : Int) := by omega
              have hbn : b < n := by omega
              have dU := keep_cell hbw (HUc.out b hbk2) (hgy (by omega))
              obtain rfl := hpy (by omega)
              have hl5 := hlen b hbn
              obtain ⟨qu, cu, gu, ou, eu, -, -, hpu, hgu, hru⟩ := (HUs.out b hbk2).open
              obtain ⟨qv, cv, gv, ov, ev, -, -, hpv, hgv, hrv⟩ := (HVs.out b hbn).open
              rw [mrk_len] at eu hpu hgu ev hpv hgv
              obtain rfl := hpu (by omega)
              have hgu1 := hgu (by omega)
              rw [eu] at dU
              have HBU : Hid (BRow Wf gu ou (mrk b ((C b).length + 10))) := hru
              have HBV : Hid (BRow Wf gv ov (mrk b (C b).length)) := hrv
              have HEv : Hid (V b = .slice qv (C b).length cv) := ev
              have HEu : Hid (U b = .slice (some ⟨gu, ou, none⟩) ((C b).length + 10) cu) := eu
              clear hru hrv ev eu hpu hgu
              generalize hm : (C b).length = m at *
              go_wp2_with fail
              go_loopw [77] (fun i wr' => ∃ j : Nat, j ≤ m + 10 ∧ i = .int .i64 (j : Int) ∧ Below Wf.heap.size Wf wr') (fun i _ => m + 10 - (intOf i).toNat)
              case atStart => exact ⟨0, by omega, rfl, hbw⟩
              case round =>
                clear hbw dU
                obtain ⟨j, hj, rfl, hbw⟩ := hrel
                by_cases c3 : j = m + 10
                · subst c3
                  go_wp2_with fail
                  exact ⟨⟨b + 1, by omega, rfl, hbw⟩, by simp only [intOf]; omega⟩
                · have hjm : j < m + 10 := by omega
                  have hji : (j : Int) < (m : Int) + 10 := by omega
                  have dUj := keep_cell hbw (HBU.out j _ (mrk_at b (m + 10) j hjm)) hgu1
                  have dVb := keep_cell hbw (HR'.out b hbn) hgl
                  rw [HEv.out] at dVb
                  have hmk := mk1_cast b j
                  have hmb := mk1_lt b j
                  have hne : ((mk1 b j : Int) != (mk1 b j : Int)) = false := by simp
                  have x1 := cls_cell dUj (Nat.lt_of_lt_of_le hgu1 hbw.size)
                  have x2 := cls_cell dVb (Nat.lt_of_lt_of_le hgl hbw.size)
                  by_cases c4 : j < m
                  · have c4' : (j : Int) < (m : Int) := by omega
                    obtain rfl := hpv (by omega)
                    have hgv1 := hgv (by omega)
                    have dVj := keep_cell hbw (HBV.out j _ (mrk_at b m j c4)) hgv1
                    have x3 := cls_cell dVj (Nat.lt_of_lt_of_le hgv1 hbw.size)
                    go_upto_region 25 with fail
                    refine wp_region_below (by kernel_rfl) (by kernel_rfl) ?_
                    have HZ := cls_some wr
                    repeat (go_big_quiet_step (fail))
                    refine wpQuiet_nil ?_
                    rintro _ ⟨y, rfl⟩
                    obtain ⟨W9, hb9⟩ := y
                    dsimp only
                    clear x1 x2 x3 HZ dUj dVb dVj
                    go_wp2_with fail
                    exact ⟨⟨j + 1, by omega, rfl, ab_trans hbw hb9⟩, by simp only [intOf]; omega⟩
                  · have c4' : ¬ (j : Int) < (m : Int) := by omega
                    go_upto_region 25 with fail
                    refine wp_region_below (by kernel_rfl) (by kernel_rfl) ?_
                    have HZ := cls_some wr
                    repeat (go_big_quiet_step (fail))
                    refine wpQuiet_nil ?_
                    rintro _ ⟨y, rfl⟩
                    obtain ⟨W9, hb9⟩ := y
                    dsimp only
                    clear x1 x2 HZ dUj dVb
                    go_wp2_with fail
                    exact ⟨⟨j + 1, by omega, rfl, ab_trans hbw hb9⟩, by simp only [intOf]; omega⟩
        · have hkn : k < n := by omega
          have hki : (k : Int) < (n : Int) := by omega
          have d := HR k hkn
          have hO := HG.own k (Nat.le_refl _) hkn
          have hl5 := hlen k hkn
          have hshp := hO.shp
          rw [mrk_len] at hshp
          have HG1 := HG.next
          have HA1 : Apt (.slice (some ⟨gl, off, none⟩) n cap) u6 (V k) n k k V U := ⟨fun j h1 h2 => HG.vv j k h1 hkn h2, fun j h1 => HG.uv j k h1 hkn (by omega), HG.yv k hkn, HG.gw k hkn⟩
          obtain ⟨qk, capk, ev⟩ := hO.form
          rw [mrk_len] at ev
          have HOk : Ow wr A.heap.size (V k) (mrk k ((C k).length + 0)) := hO
          have HShp : Hid (Shp (V k) (C k).length) := hshp
          clear hO hshp HG
          rw [ev] at d
          rw [ev] at HOk HA1
          have HEV : Hid (V k = .slice qk (C k).length capk) := ev
          clear ev
          generalize hm : (C k).length = m at *
          have HR' : Hid (∀ j, j < n → wr.cell? ⟨gl, off + j, none⟩ = some (V j)) := HR
          have HU' : Hid (∀ j, j < k → us[j]? = some (U j)) := HU
          clear HR HU
          go_wp2_with fail
          go_loopw [8] (fun x wr' => ∃ t : Nat, t ≤ 10 ∧ Ow wr' A.heap.size x (mrk k (m + t)) ∧ Apt (.slice (some ⟨gl, off, none⟩) n cap) u6 x n k k V U ∧ Gr wr' A.heap.size (.slice (some ⟨gl, off, none⟩) n cap) u6 n (k + 1) k V U (fun j => (C j).length) ∧ wr'.ownsRow A.heap.size 39 1 u6 k us ∧ Hid (∀ j, j < n → wr'.cell? ⟨gl, off + j, none⟩ = some (V j)) ∧ gl < wr'.heap.size ∧ Below A.heap.size A wr') (fun x _ => m + 10 - slLen2 x)
          case atStart => exact ⟨0, by omega, HOk, HA1, HG1, hown, HR', hgl, hA⟩
          case round =>
            clear HOk HA1 HG1 hown HR' hgl hA d
            obtain ⟨t, ht, HO, HAp, HG, hown, HR, hgl, hA⟩ := hrel
            obtain ⟨qx, capx, ex⟩ := HO.form
            rw [mrk_len] at ex
            subst ex
            by_cases c2 : t = 10
            · subst c2
              go_upto_region 18 with (first
                | (refine bs_ls rfl rfl [_] [mrk k (m + 10)] (by simp only [List.map_toArray, List.map_cons, List.map_nil]; rfl) (bsl1 _ _ _ _) rfl (by decide) rfl (each1 HO.sl) ?_; intro W2 hls2 hb2 hbk2)
                | (at_builtin; refine app1 A rfl rfl rfl (own_keep hown hb2) rfl ⟨_, _, _, rfl⟩ (hbk2.at (i := 0) rfl) (by omega) (ab_trans hA hb2) ?_; intro y3 W3 hown3 hnn3 hb3 hgr3 hat3))
              have hgr4 : W2.grownBy W3 u6.ownBlock := hgr3
              have hat4 : y3.ownBlock = u6.ownBlock ∨ y3.ownBlock = some W2.heap.size := hat3
              have hgl2 := Nat.lt_of_lt_of_le hgl hb2.size
              have HO2 : Ow W2 A.heap.size (.slice qx (m + 10) capx) (mrk k ((fun j => (C j).length) k + 10)) := by show Ow _ _ _ (mrk k ((C k).length + 10)); rw [hm]; exact HO.keep hb2
              have HGn := (HG.keep hb2).put HAp HO2 hgr4 hat4 (fun b hb => by simp [Value.ownBlock] at hb; omega)
              have hul : us.length = k := by have := hown.1; omega
              have HUn : ∀ j, j < k + 1 → (us ++ [.slice qx (m + 10) capx])[j]? = some (if j = k then .slice qx (m + 10) capx else U j) := fun j hj => by
                by_cases c3 : j = k
                · rw [if_pos c3, List.getElem?_append_right (by omega)]; simp [hul, c3]
                · rw [if_neg c3, List.getElem?_append_left (by omega)]; exact HU'.out j (by omega)
              have HRn : ∀ j, j < n → W3.cell? ⟨gl, off + j, none⟩ = some (V j) := fun j hj => hgr4.cell (keep_cell hb2 (HR.out j hj) hgl) (fun e => HG.gy gl rfl e.symm)
              have HRh : Hid (∀ j, j < n → W3.cell? ⟨gl, off + j, none⟩ = some (V j)) := HRn
              have HUh : Hid (∀ j, j < k + 1 → (us ++ [.slice qx (m + 10) capx])[j]? = some (if j = k then .slice qx (m + 10) capx else U j)) := HUn
              clear hgr3 hat3 HO2 HG HO hown HR HRn HUn hls2 hbk2
              go_wp2_with fail
              exact ⟨⟨k + 1, _, _, by omega, rfl, HGn, hown3, HUh.out, HRh.out, Nat.lt_of_lt_of_le hgl2 hgr4.size, hb3⟩, by simp only [intOf]; omega⟩
            · have hki2 : (m : Int) + (t : Int) < (m : Int) + 10 := by omega
              have hkn2 : m + t < m + 10 := by omega
              have hmk := mk1_cast k (m + t)
              go_wp2_with (first
                | (refine bs_by rfl rfl [mk1 k (m + t)] (vs := #[(0, .int .u8 ((mk1 k (m + t) : Nat) : Int))]) (by simp only [List.map_toArray, List.map_cons, List.map_nil]; rfl) (bsb1 _ _) rfl (by decide) ?_; intro W2 hN2 hb2 z2)
                | (at_builtin; refine app_by2 A rfl rfl rfl (HO.keep hb2) rfl (own_sl hN2).2 rfl (by rw [mrk_len]; show m + t + 1 ≤ _; omega) (ab_trans hA hb2) ?_; intro x3 W3 hown3 hb3 hgr3 hat3))
              have HO3 : Ow W3 A.heap.size x3 (mrk k (m + (t + 1))) := ow_of hown3
              have hg3 : W2.grownBy W3 (Value.slice qx (m + t) capx).ownBlock := hgr3
              have hat4 : x3.ownBlock = (Value.slice qx (m + t) capx).ownBlock ∨ x3.ownBlock = some W2.heap.size ∧ W2.grownBy W3 none := hat3
              have HG2 := HG.keep hb2
              have hgl2 := Nat.lt_of_lt_of_le hgl hb2.size
              have hyo := own_keep hown hb2
              have hrdk := HG2.rd k (by omega) hkn
              have hrd3 : Sl W3 (V k) (mrk k (C k).length) := by
                have h1 : Sl W2 (V k) (mrk k (C k).length) := hrdk
                rw [hm] at h1 ⊢
                exact rd_step HShp.out h1 HO3 hg3 hat4
              have HG3 := HG2.kept HAp hg3 (fun _ => hrd3)
              have HA3 := HAp.at HG2 (fun b hb => (hyo.lt b hb).2) (fun b hb => by simp [Value.ownBlock] at hb; omega) (hat4.imp id (fun h => h.1))
              have HR3 : Hid (∀ j, j < n → W3.cell? ⟨gl, off + j, none⟩ = some (V j)) := fun j hj => hg3.cell (keep_cell hb2 (HR.out j hj) hgl) (fun e => HAp.g gl rfl e.symm)
              refine ⟨⟨t + 1, by omega, HO3, HA3, HG3, World.ownsRow.kept hyo hg3 HAp.y.row, HR3, Nat.lt_of_lt_of_le hgl2 hg3.size, hb3⟩, ?_⟩
              obtain ⟨q4, c4, e4⟩ := HO3.form
              rw [e4, mrk_len]
              simp only [slLen2]
              omega
    · have hkn : k < n := by omega
      have hki : (k : Int) < (n : Int) := by omega
      have d := HB.row k hkn
      have hl5 := hlen k hkn
      have hO := HB.own k hkn
      have eC : cI C k 0 k = C k := by unfold cI; rw [if_neg (by omega), if_pos rfl, mix_zero]
      rw [eC] at hO
      have hshp := hO.shp
      have hwb := hO.lt
      obtain ⟨qk, capk, ev⟩ := hO.form
      have HEV : Hid (V k = .slice qk (C k).length capk) := ev
      rw [ev] at d
      generalize hm : (C k).length = m at *
      clear hO eC
      go_wp2_with fail
      go_loopw [22] (fun i wr' => ∃ t : Nat, t ≤ m ∧ i = .int .i64 (t : Int) ∧ Bg wr' A.heap.size gl off n V (cI C k t) ∧ gl < wr'.heap.size ∧ Below A.heap.size A wr') (fun i _ => m - (intOf i).toNat)
      case atStart => exact ⟨0, by omega, rfl, HB, hgl, hA⟩
      case round =>
        clear HB hgl hA d
        obtain ⟨t, ht, rfl, HB, hgl, hA⟩ := hrel
        by_cases c2 : t = m
        · have HB2 := HB.same (fun j _ => show cI C k t j = cI C (k + 1) 0 j by rw [c2, ← hm]; exact cI_next C k j)
          clear HB
          subst c2
          go_wp2_with fail
          exact ⟨⟨k + 1, by omega, rfl, HB2, hgl, hA⟩, by simp only [intOf]; omega⟩
        · rcases hshp with ⟨_, h0⟩ | ⟨g, cap2, e2, _, _⟩
          · omega
          · rw [HEV.out] at e2
            cases e2
            have htm : t < m := by omega
            have hti : (t : Int) < (m : Int) := by omega
            have hbg := hwb g (by rw [HEV.out]; rfl)
            have hO2 := HB.own k hkn
            have eC : cI C k t k = mix k t (C k) := by unfold cI; rw [if_neg (by omega), if_pos rfl]
            rw [eC, HEV.out] at hO2
            have hO3 : wr.ownsRow A.heap.size 5 1 (.slice (some ⟨g, 0, none⟩) m capk) m (bys (mix k t (C k))) := by
              unfold Ow at hO2
              rwa [mix_len k t (C k) (by omega), hm] at hO2
            have hfz := hO3.frozenAt t
            obtain ⟨z, hz⟩ : ∃ z, (mix k t (C k))[t]? = some z := ⟨_, List.getElem?_eq_getElem (by rw [mix_len k t (C k) (by omega)]; omega)⟩
            have hcl := hO3.cellAt t (by omega)
            rw [bys_at, hz, Option.map_some] at hcl
            have hgg : gl ≠ g := fun e => by
              have := hsg k hkn gl rfl
              rw [HEV.out] at this
              exact this (by rw [e]; rfl)
            have hmk := mk1_cast k t
            have HST : Hid (Bg (wr.setCell ⟨g, t, none⟩ (.int .u8 ((mk1 k t : Nat) : Int))) A.heap.size gl off n V (cI C k (t + 1))) := HB.store hkn (by omega) (by rw [hm]; exact HEV.out) (fun i h1 h2 => hsep i k h1 hkn h2) hgg
            have HBL : Hid (Below A.heap.size A (wr.setCell ⟨g, t, none⟩ (.int .u8 ((mk1 k t : Nat) : Int)))) := ab_set hA hbg.1 _
            clear HB hO2 hO3 eC hz
            go_wp2_with fail
            exact ⟨⟨t + 1, by omega, rfl, HST.out, by simpa using hgl, HBL.out⟩, by simp only [intOf]; omega⟩
end Go.Proofs.Ytalbiggmmmkclaa
namespace Go.Proofs.Ytalbiggmmmkclaa
open Go.RowKit
set_option linter.unusedVariables false

/-- A copy: its bytes, and two marks behind them. -/
def Cp (W : World) (base : Nat) (v : Value) (l : List Nat) : Prop := ∃ g cap, v = .slice (some ⟨g, 0, none⟩) l.length cap ∧ W.ownsRow base 5 1 (.slice (some ⟨g, 0, none⟩) (l.length + 2) cap) (l.length + 2) (bys (l ++ [165, 90]))
theorem Cp.keep {W W' : World} {base : Nat} {v : Value} {l : List Nat} (h : Cp W base v l) (hb : Below W.heap.size W W') : Cp W' base v l := by
  obtain ⟨g, cap, rfl, h1⟩ := h
  exact ⟨g, cap, rfl, own_keep h1 hb⟩
theorem own_pre {W : World} {base g n m cap : Nat} {xs : List Value} (h : W.ownsRow base 5 1 (.slice (some ⟨g, 0, none⟩) n cap) n xs) (hm : m ≤ n) : W.ownsRow base 5 1 (.slice (some ⟨g, 0, none⟩) m cap) m (xs.take m) := by
  obtain ⟨h1, h2⟩ := h
  refine ⟨by rw [List.length_take]; omega, .inr ?_⟩
  rcases h2 with ⟨h2, _⟩ | ⟨g', cap', cur, e, hb, hg, hnc, hcm, hcs, ht⟩
  · cases h2
  · cases e
    refine ⟨g, cap, cur, rfl, hb, hg, by omega, hcm, hcs, ?_⟩
    rw [← ht, List.take_take]
    congr 1
    omega
theorem Cp.ow {W : World} {base : Nat} {v : Value} {l : List Nat} (h : Cp W base v l) : Ow W base v l := by
  obtain ⟨g, cap, rfl, h1⟩ := h
  have := own_pre h1 (Nat.le_add_right l.length 2)
  have e : (bys (l ++ [165, 90])).take l.length = bys l := by
    rw [← bys_append, ← bys_len l, List.take_left]
  rw [e] at this
  exact this
set_option maxHeartbeats 400000 in
theorem copy_any (v : Value) (l : List Nat) (w : World) (hv : Sl w v l) (hl : l.length ≤ 100000) :
    Calls Try.prog 14 #[v] w fun e w' => ∃ v', e = .returned v' ∧ Cp w' w.heap.size v' l ∧ Below w.heap.size w w' := by
  obtain ⟨q, cap, e, -⟩ := id hv
  subst e
  generalize hn : l.length = n at *
  go_enter Try.func14, Try.ntmps14
  go_wp2_with (first
    | (refine mk_own (c := n + 2) w rfl rfl Try.underlying39 infoByte rfl rfl (by omega) (by omega) (by unfold maxLen; omega) (Below.refl _ _) ?_; intro v1 W1 hown1 hv1 hb1 hb1')
    | (at_builtin; refine app_by w rfl rfl rfl (ow_empty hown1) rfl (hv.keep hb1) hn (by show 0 + n ≤ _; omega) hb1 ?_; intro v2 W2 hown2 hnil2 hb2 hgr2 hat2)
    | (refine bs_by rfl rfl [165, 90] (vs := #[(0, .int .u8 165), (1, .int .u8 90)]) (by simp only [List.map_toArray, List.map_cons, List.map_nil]; rfl) (bsb2 165 90 _) rfl (by decide) ?_; intro W3 hN3 hb3 z3)
    | (at_builtin; refine app_by w rfl rfl rfl (own_keep hown2 hb3) rfl (own_sl hN3).2 rfl (by show 0 + n + 2 ≤ _; omega) (ab_trans hb2 hb3) ?_; intro v4 W4 hown4 hnil4 hb4 hgr4 hat4; obtain ⟨g4, cap4, e4, -, -, hc4, -, -⟩ := own_cells hown4 (fun e => by have h5 := (hnil4.1 e).1; exact hv1 ((hnil2.1 h5).1)); subst e4)
    | (refine sl_h rfl rfl (h := n) rfl rfl eltB (sizeB _) (by show n ≤ _; have : 0 + n + 2 ≤ cap4 := hc4; omega) ?_))
  go_ret
  refine ⟨_, rfl, ⟨g4, cap4, by rw [hn]; rfl, ?_⟩, hb4⟩
  have : W4.ownsRow w.heap.size 5 1 (.slice (some ⟨g4, 0, none⟩) (0 + n + 2) cap4) (0 + n + 2) (bys ([] ++ l ++ [165, 90])) := hown4
  rw [Nat.zero_add, List.nil_append] at this
  rw [hn]
  exact this
set_option maxHeartbeats 400000 in
theorem kept_any (v u : Value) (l : List Nat) (base : Nat) (w : World) (hc : Cp w base v l) (hu : Sl w u l) (hl : l.length ≤ 100000) :
    Calls Try.prog 21 #[v, u] w fun e w' => e = .returned (.bool true) ∧ w' = w := by
  have c1 := sl_str hc.ow.sl
  have c2 := sl_str hu
  obtain ⟨g, cap, e, hown⟩ := hc
  subst e
  obtain ⟨q, cap2, e, -⟩ := id hu
  subst e
  have d1 := hown.cellAt l.length (by omega)
  have d2 := hown.cellAt (l.length + 1) (by omega)
  rw [bys_at, List.getElem?_append_right (Nat.le_refl _), Nat.sub_self] at d1
  rw [bys_at, List.getElem?_append_right (by omega), Nat.add_sub_cancel_left] at d2
  have d1' : w.cell? ⟨g, l.length, none⟩ = some (.int .u8 165) := d1
  have d2' : w.cell? ⟨g, l.length + 1, none⟩ = some (.int .u8 90) := d2
  obtain ⟨g', cap', e', -, -, hcc, -, -⟩ := own_cells hown (by simp)
  cases e'
  clear d1 d2 hown hu
  generalize hn : l.length = n at *
  have hci : ¬ (cap : Int) < (n : Int) + 2 := by omega
  go_enter Try.func21, Try.ntmps21
  go_wp2_with (refine sl_h rfl rfl (h := n + 2) rfl rfl eltB (sizeB _) (by omega) ?_)
  go_ret
  exact ⟨rfl, rfl⟩
end Go.Proofs.Ytalbiggmmmkclaa
namespace Go.Proofs.Ytalbiggmmmkclaa
open Go.RowKit
set_option linter.unusedVariables false

def u8s (zs : List Int) : List Value := zs.map fun z => Value.int .u8 z
theorem u8s_set (l : List Int) (j : Nat) (x : Int) : (u8s l).set j (.int .u8 x) = u8s (l.set j x) := by simp [u8s, List.map_set]
theorem bys_u8s (l : List Nat) : bys l = u8s (l.map fun x => ((x : Nat) : Int)) := by simp [bys, u8s]
set_option maxHeartbeats 1000000 in
theorem over_any (base : Nat) (v : Value) (l : List Nat) (w : World) (h : Ow w base v l) :
    Calls Try.prog 22 #[v] w fun e w' => e = .returned (.tuple #[]) ∧ (∀ g, v.ownBlock = some g → Chg g w w') ∧ (v.ownBlock = none → w' = w) := by
  by_cases hv : v = .slice none 0 0
  · subst hv
    go_enter Try.func22, Try.ntmps22
    go_wp2_with fail
    go_loopw [5] (fun x wr => x = .int .i64 0 ∧ wr = w) (fun _ _ => 0)
    case atStart => exact ⟨rfl, rfl⟩
    case round =>
      obtain ⟨rfl, rfl⟩ := hrel
      go_wp2_with fail
      go_end0
      exact ⟨rfl, (fun g hg => by cases hg), fun _ => rfl⟩
  · obtain ⟨g, cap, e, hb, hg, hc, hm, hcell⟩ := own_cells h hv
    unfold Ow at h
    unfold maxLen at hm
    generalize hn : l.length = n at *
    subst e
    rw [bys_u8s] at h
    have hz : (l.map fun x => ((x : Nat) : Int)).length = n := by simpa using hn
    generalize (l.map fun x => ((x : Nat) : Int)) = zs at *
    clear hcell hv
    go_enter Try.func22, Try.ntmps22
    go_wp2_with fail
    go_loopw [5] (fun x wr => ∃ (i : Nat) (ys : List Int), i ≤ n ∧ x = .int .i64 (i : Int) ∧ ys.length = n ∧ wr.ownsRow base 5 1 (.slice (some ⟨g, 0, none⟩) n cap) n (u8s ys) ∧ Chg g w wr) (fun x _ => n - (intOf x).toNat)
    case atStart => exact ⟨0, zs, by omega, rfl, hz, h, Chg.refl _ _⟩
    case round =>
      clear h hz
      obtain ⟨i, ys, hi, rfl, hy, h, hk⟩ := hrel
      by_cases hin : i = n
      · subst hin
        go_wp2_with fail
        go_end0
        exact ⟨rfl, (fun g' hg' => by cases hg'; exact hk), (fun h0 => by cases h0)⟩
      · have hii : (i : Int) < (n : Int) := by omega
        have hin' : i < n := by omega
        have d := h.cellAt i (by omega)
        have fz := h.frozenAt i
        obtain ⟨z, hzz⟩ : ∃ z, ys[i]? = some z := ⟨ys[i], List.getElem?_eq_getElem (by omega)⟩
        have hu : (u8s ys)[i]? = some (.int .u8 z) := by simp [u8s, hzz]
        rw [hu] at d
        go_wp2_with fail
        have hst := (h.stored i (.int .u8 (bits .xor .u8 z 255))).1
        rw [u8s_set] at hst
        exact ⟨⟨i + 1, _, by omega, rfl, by rw [List.length_set]; exact hy, hst, hk.trans (chg_set _ _ _ _)⟩, by simp only [intOf]; omega⟩
/-- Nothing but the tape's own memory and block r has turned. -/
structure Mw (b r : Nat) (w w' : World) (v v' : Value) : Prop where
  os : w'.os = w.os
  tape : w'.tape = w.tape
  output : w'.output = w.output
  size : w.heap.size ≤ w'.heap.size
  other : ∀ k, k < w.heap.size → k ≠ b → k ≠ r → v.ownBlock ≠ some k → w'.heap[k]? = w.heap[k]?
  next : ∀ x, v'.ownBlock = some x → v.ownBlock = some x ∨ w.heap.size ≤ x
theorem Mv.mw {b : Nat} {w w' : World} {v v' : Value} (h : Mv b w w' v v') (r : Nat) : Mw b r w w' v v' := ⟨h.os, h.tape, h.output, h.size, fun k hk hb _ hv => h.other k hk hb hv, h.next⟩
theorem Chg.mw {r : Nat} {w w' : World} (h : Chg r w w') (b : Nat) (v : Value) : Mw b r w w' v v := ⟨h.os, h.tape, h.output, Nat.le_of_eq h.size.symm, fun k _ _ hr _ => h.other k hr, fun _ h => .inl h⟩
theorem Mw.trans {b r : Nat} {w w' w'' : World} {v v' v'' : Value} (h : Mw b r w w' v v') (k : Mw b r w' w'' v' v'') : Mw b r w w'' v v'' :=
  ⟨k.os.trans h.os, k.tape.trans h.tape, k.output.trans h.output, Nat.le_trans h.size k.size,
   fun i hi hb hr hv => (k.other i (Nat.lt_of_lt_of_le hi h.size) hb hr (fun e => by
     rcases h.next i e with e | e
     · exact hv e
     · omega)).trans (h.other i hi hb hr hv),
   fun x hx => by
     rcases k.next x hx with e | e
     · exact h.next x e
     · exact .inr (Nat.le_trans h.size e)⟩
theorem Mw.below {A w w' : World} {b r : Nat} {v v' : Value} {S : TS} (h : Mw b r w w' v v') (hT : Tp w A.heap.size b v S) (hr : A.heap.size ≤ r) : Below A.heap.size w w' :=
  ⟨h.os, h.tape, h.output, h.size, fun k hk => h.other k (Nat.lt_trans hk hT.lt) (by have := hT.ge; omega) (by omega) (fun e => by have := (hT.own.lt k e).1; omega)⟩
theorem blk_ne {W : World} {b r : Nat} {x y : Array Value} {t u : TypeId} (h : Blk W b x t) (k : Blk W r y u) (hn : t ≠ u) : b ≠ r := by
  intro e
  subst e
  unfold Blk at h k
  rw [h] at k
  cases k
  exact hn rfl
theorem tp_two {w : World} {base b r : Nat} {v : Value} {S S' : TS} (hT : Tp w base b v S) (hR : Rf w r S') : r ≠ b ∧ v.ownBlock ≠ some r := by
  obtain ⟨ar, lf, un, hB, -⟩ := hR
  exact ⟨blk_ne hB hT.blk (by decide), blk_own hT.own hB (by decide)⟩
theorem Tp.chgO {W W' : World} {base b r : Nat} {v : Value} {S : TS} (h : Tp W base b v S) (hc : Chg r W W') (hb : b ≠ r) (ho : v.ownBlock ≠ some r) : Tp W' base b v S :=
  ⟨h.ge, h.blk.chg hc hb, own_chgT h.own hc ho, h.sure, h.max, h.bo, h.br⟩
theorem Rf.mv {W W' : World} {base b r : Nat} {v v' : Value} {S S' : TS} (h : Rf W r S) (hT : Tp W base b v S') (m : Mv b W W' v v') : Rf W' r S := by
  obtain ⟨h1, h2⟩ := tp_two hT h
  exact h.at (m.other r h.lt h1 h2)
theorem Rf.chgO {W W' : World} {r g : Nat} {S : TS} (h : Rf W r S) (hc : Chg g W W') (hn : r ≠ g) : Rf W' r S := h.at (hc.other r hn)
end Go.Proofs.Ytalbiggmmmkclaa
namespace Go.Proofs.Ytalbiggmmmkclaa
open Go.RowKit
set_option linter.unusedVariables false

theorem steps_st (S : TS) : (stS S).steps ≤ S.steps + 1 := by
  unfold stS
  split
  · omega
  · split
    · show S.steps ≤ _; omega
    · show S.steps + 1 ≤ _; omega
theorem steps_ap (S : TS) (m : List Nat) : (apS S m).steps ≤ S.steps + 1 := by
  have := steps_st S
  unfold apS
  split
  · split <;> exact this
  · omega
theorem steps_rp (S : TS) (m : List Nat) : (rpS S m).steps ≤ S.steps + 1 := by
  have := steps_st S
  unfold rpS
  split
  · split <;> exact this
  · omega
theorem steps_sy (S : TS) : (syS S).steps ≤ S.steps + 1 := by
  have := steps_st S
  unfold syS
  split <;> exact this
theorem steps_ct (S : TS) : (ctS S).steps ≤ S.steps + 1 := by
  unfold ctS
  split
  · omega
  · show S.steps ≤ _; omega
/-- Both tapes behind a call. -/
def Bo (A : World) (b r : Nat) (W wc : World) (v : Value) (S : TS) : Prop := ∃ v' S', Tp wc A.heap.size b v' S' ∧ Rf wc r S' ∧ S'.steps ≤ S.steps + 1 ∧ Mw b r W wc v v'
/-- First the tape, then the document's. -/
theorem bo_of {A W W1 W2 : World} {b r : Nat} {v v1 : Value} {S S1 : TS} (hT : Tp W A.heap.size b v S) (hR : Rf W r S) (h1 : Tp W1 A.heap.size b v1 S1) (m1 : Mv b W W1 v v1) (h2 : Rf W2 r S1) (k2 : Chg r W1 W2) (hs : S1.steps ≤ S.steps + 1) : Bo A b r W W2 v S := by
  obtain ⟨n1, n2⟩ := tp_two h1 (hR.mv hT m1)
  exact ⟨v1, S1, h1.chgO k2 (Ne.symm n1) n2, h2, hs, (m1.mw r).trans (k2.mw b v1)⟩
end Go.Proofs.Ytalbiggmmmkclaa
