/-
  A nil basin; the law's alive.
-/
import Derived.Test.YtoeilckeebojmaaPk43
import Derived.Test.YtoeilckeebojmaaPk45
import Derived.Test.YtoeilckeebojmaaPk46
import Derived.Test.YtoeilckeebojmaaPk47
namespace Go.Proofs.Ytoeilckeebojmaa
open Go.RowKit Go.Maps
set_option linter.unusedVariables false
set_option maxRecDepth 100000

theorem bafeed_nil (src fr la : Int) (q q2 : Option Addr) (n c n2 c2 : Nat) (w : World) : Calls Try.prog 11 #[.pointer none, .int .i64 src, .int .i64 fr, .int .i64 la, .slice q n c, .slice q2 n2 c2] w fun e w' => e = .returned (Err 2) ∧ w' = w := by
  go_enter Try.func11, Try.ntmps11
  go_wp2_with (go_at_call 33; refine (bhasS_nil _ _).mono ?_; rintro e W ⟨rfl, rfl⟩)
  go_ret
  exact ⟨rfl, rfl⟩
theorem babase_nil (n : Int) (w : World) : Calls Try.prog 21 #[.pointer none, .int .i64 n] w fun e w' => e = .returned (Plc 0 0) ∧ Below w.heap.size w w' := by
  obtain ⟨A, hE, hX, hw⟩ := blk1 w #[.int .i64 0, .int .i64 0] 38
  go_enter Try.func21, Try.ntmps21
  go_upto_region 2 with (go_at_call 45; refine (bhasL_nil _ _).mono ?_; rintro e W ⟨rfl, rfl⟩)
  clear hE
  go_wp2_with (refine st_blk rfl rfl hX rfl rfl info_plc rfl (by simp [Value.oneCell']) ?_; intro W2 hX2 C2)
  exact bodyPost_ret (results_cell_row rfl _ _ _ 38 _ (0, 0) _ rfl hX2 Try.underlying38 rfl info_plc) rfl ⟨rfl, ab_chg hw C2 (Nat.le_refl _)⟩
theorem bacell_nil (k : Kyy) (w : World) : Calls Try.prog 14 #[.pointer none, kyV k] w fun e w' => e = .returned (.tuple #[.agg (CA zc), .bool false]) ∧ Below w.heap.size w w' := by
  obtain ⟨ka, kb, kc⟩ := k
  unfold kyV
  try dsimp only
  obtain ⟨A1, hE, hX, hw1⟩ := blk1 w #[.int .i64 ka, .int .i64 kb, .int .i64 kc] 47
  go_enter Try.func14, Try.ntmps14
  go_upto_region 2 with (refine al_cell rfl rfl ?_; intro W1 e1 hR1 hg1)
  rw [← e1]
  clear e1 hE
  go_wp2_with (first
    | (go_at_call 40; refine (unit_any _).mono ?_; rintro e W2 ⟨rfl, b2⟩; have hR2 := hR1.keep b2)
    | (refine st_cell rfl rfl hR2 rfl rfl ?_; intro W3 hR3 C3))
  exact bodyPost_ret (results_c2 rfl _ _ _ 54 _ (0, 0) _ _ rfl rfl hR3 Try.underlying54 rfl (info_cell _)) rfl ⟨rfl, ab_chg (ab_trans (ab_trans hw1 hg1) b2) C3 (by have := hX.lt; omega)⟩
theorem is_one {W : World} {g : Nat} {x : Int} (h : Blk W g #[.int .i64 x] 3) : Is W (.slice (some ⟨g, 0, none⟩) 1 1) [x] := by
  refine ⟨some ⟨g, 0, none⟩, 1, g, 0, rfl, Nat.le_refl _, by omega, fun _ => rfl, fun _ => h.lt, fun j y hj => ?_⟩
  match j, hj with
  | 0, hj => simp at hj; subst hj; exact h.at rfl
  | j + 1, hj => simp at hj
theorem er_blk {α : Type} {E : En α} {e : TypeId} {W : World} {g n : Nat} {l : List α} {xs : Array Value} (h : Blk W g xs e) (hx : xs.toList = E.fl l) (hn : l.length = n) (hm : n ≤ 1000000) : ER E W (.slice (some ⟨g, 0, none⟩) n n) l := by
  subst hn
  refine ⟨some ⟨g, 0, none⟩, l.length, g, 0, rfl, Nat.le_refl _, by omega, fun _ => ⟨rfl, h.lt⟩, fun j u hu => ?_⟩
  rw [Nat.zero_add, h.cell, ← hu, ← hx]
  simp
theorem stay_young {α : Type} {E : En α} {K : Bkk} {w : World} {g n c o : Nat} {l : List α} (h : ER E w (.slice (some ⟨g, o, none⟩) n c) l) (hx : ∀ k, bkB K k → k < g) : Stay E K w (.slice (some ⟨g, o, none⟩) n c) l :=
  stay_out h (fun a n' c' e hk => by injection e with e1; injection e1 with e1; subst e1; exact absurd (hx _ hk) (Nat.lt_irrefl _))
def alO1 : Op5 := ⟨1, 1, 5, 1, 7⟩
def alO2 : Op5 := ⟨2, 2, 10, 0, 0⟩
def alS0 : Bsn := newBsn 1 [10] 1 9
theorem al_ks : (fdZ alS0 0 2 [lstP] [alO1, alO2]).ks = [(0, 0, 1)] := by kernel_rfl
theorem al_fl : (fdZ alS0 0 2 [lstP] [alO1, alO2]).fl = [⟨3, 10, true⟩] := by kernel_rfl
theorem al_ba : (fdZ alS0 0 2 [lstP] [alO1, alO2]).ba = [lstP] := by kernel_rfl
theorem al_res : (fdZ alS0 0 2 [lstP] [alO1, alO2]).res = [10] ∧ (fdZ alS0 0 2 [lstP] [alO1, alO2]).sh = 1 := ⟨by kernel_rfl, by kernel_rfl⟩
theorem al_e : tkE (fdR alS0 0 [lstP] [alO1, alO2]) = 0 := by kernel_rfl
theorem al_cv : (fdZ alS0 0 2 [lstP] [alO1, alO2]).cv (0, 0, 1) 0 = 1 := by kernel_rfl
theorem al_cls : clsP (fdZ alS0 0 2 [lstP] [alO1, alO2]) 0 = (1, -9223372036854775808) := by kernel_rfl
theorem al_lm : lmB (fdZ alS0 0 2 [lstP] [alO1, alO2]).fl = true := by kernel_rfl
theorem al_dr : (drpB (lifB (fdZ alS0 0 2 [lstP] [alO1, alO2]) 0 (1, -9223372036854775808))).ks = [] := by kernel_rfl
theorem al_new : newOK 1 [10] 1 9 = true := by decide
theorem al_form : fdF alS0 (0 : Nat) 1 2 [lstP] [alO1, alO2] := by
  refine ⟨by decide, by decide, by unfold wrap64; omega, ?_, ?_⟩
  · intro o ho
    simp at ho
    rcases ho with rfl | rfl <;> decide
  · simp [alO1, alO2]
theorem bld_pl (x y : Int) (w : World) : (Instr.buildSlice 36 1 #[(0, .agg #[.int .i64 x, .int .i64 y])]).run Try.prog w = .ok (.slice (some ⟨w.heap.size, 0, none⟩) 1 1) (w.alloc (.cells #[.int .i64 x, .int .i64 y] 38)) := bapl1 x y w
theorem bld_op2 (a b : Op5) (w : World) : (Instr.buildSlice 22 2 #[(0, opV a), (1, opV b)]).run Try.prog w = .ok (.slice (some ⟨w.heap.size, 0, none⟩) 2 2) (w.alloc (.cells #[.int .i64 a.s, .int .i64 a.k, .int .i64 a.t, .int .i64 a.y, .int .i64 a.v, .int .i64 b.s, .int .i64 b.k, .int .i64 b.t, .int .i64 b.y, .int .i64 b.v] 27)) := by kernel_rfl
set_option maxHeartbeats 4000000 in
theorem alive16_any (w : World) : Calls Try.prog 8 #[] w fun e w' => e = .returned (.bool true) ∧ Below w.heap.size w w' := by
  obtain ⟨A, hE, hX, hw⟩ := blk1 w #[.int .i64 10] 3
  have HN := banew_ok 1 _ [10] 1 9 A (is_one hX) (fun r hr => by simp at hr; omega) al_new
  go_enter Try.func8, Try.ntmps8
  go_upto_region 4 with (go_at_call 9; refine HN.mono ?_; rintro e W1 ⟨⟨K, rfl, hB1⟩, b1⟩)
  have hzK : ∀ k, bkB K k → k < W1.heap.size := fun k hk => (hB1.bks hk).2
  have hB1' : Bq W1 A.heap.size K alS0 := hB1
  have hbA := ab_trans hw b1
  have hge : ∀ k, bkB K k → w.heap.size ≤ k := fun k hk => Nat.le_trans hw.size (hB1.bks hk).1
  clear hE HN hX hB1
  go_upto_region 5 with (first
    | (go_at_call 10; refine (rleast_any _).mono ?_; rintro e W2 ⟨rfl, b2⟩
       obtain ⟨W3, hE3, hX3, b3⟩ := blk1 W2 #[.int .i64 (-9223372036854775808), .int .i64 (-9223372036854775808)] 38
       obtain ⟨W4, hE4, hX4, b4⟩ := blk1 W3 #[.int .i64 1, .int .i64 1, .int .i64 5, .int .i64 1, .int .i64 7, .int .i64 2, .int .i64 2, .int .i64 10, .int .i64 0, .int .i64 0] 27
       have hB4 := ((hB1'.keep b2).keep b3).keep b4
       have HF := bafeed_ok 0 1 2 (.slice (some ⟨W2.heap.size, 0, none⟩) 1 1) (.slice (some ⟨W3.heap.size, 0, none⟩) 2 2) [lstP] [alO1, alO2] W4 hB4
         (stay_young (er_blk (hX3.keep b4) rfl rfl (by omega)) (fun k hk => Nat.lt_of_lt_of_le (hzK k hk) b2.size)) (stay_young (er_blk hX4 rfl rfl (by omega)) (fun k hk => Nat.lt_of_lt_of_le (hzK k hk) (Nat.le_trans b2.size b3.size))) al_form (f := newFl) rfl rfl
         (fun p hp => by simp at hp; subst hp; unfold lstP J64; dsimp only; omega) (fun o ho => by simp at ho; rcases ho with rfl | rfl <;> (constructor <;> (unfold J64; decide))) (by unfold J64; omega))
    | (go_at_call 11; refine HF.mono ?_; rintro e W5 ⟨rfl, hB5, hF5⟩; rw [al_e, errV_ok rfl]))
  have hw4 : Below w.heap.size w W4 := ab_trans (ab_trans (ab_trans hbA b2) b3) b4
  have hw5 : Below w.heap.size w W5 := hw4.trans (hF5.below hw4.size hge)
  have k1 := al_ks
  have k2 := al_fl
  have k3 := al_ba
  have k4 := al_cv
  have k5 := al_cls
  have k6 := al_lm
  have k7 := al_dr
  generalize fdZ alS0 0 2 [lstP] [alO1, alO2] = S1 at *
  clear hF5 HF hB4 hX3 hX4 hE3 hE4 b2 b3 b4 hB1' hzK hw4 hbA
  have hkk : KyOk (0, 0, 1) := by unfold KyOk J64; dsimp only; omega
  have HCe := bacell_any (0, 0, 1) W5 hB5 hkk
  have hin : decide ((0, 0, 1) ∈ S1.ks) = true := by rw [k1]; decide
  rw [hin] at HCe
  unfold kyV at HCe
  dsimp only at HCe
  have hcc0 : Hid (S1.cv (0, 0, 1) 0 = 1) := k4
  generalize S1.cv (0, 0, 1) = cc at *
  have hba : S1.ba.length = 1 := by rw [k3]; rfl
  go_upto_region 6 with (first
    | (go_at_call 14; refine HCe.mono ?_; rintro e W6 ⟨rfl, b6⟩)
    | (refine al_cell rfl rfl ?_; intro W7 e7 hX7 b7; clear e7)
    | (refine st_cell rfl rfl hX7 rfl rfl ?_; intro W8 hX8 C8))
  have b58 : Below W5.heap.size W5 W8 := ab_chg (ab_trans b6 b7) C8 b6.size
  have hB8 := hB5.keep b58
  have hw8 := ab_trans hw5 b58
  have HCl := baclosed_at 0 W8 hB8 (by omega)
  rw [k5, k6] at HCl
  have x0 : ∀ V, Below W8.heap.size W8 V → V.cell? ⟨W6.heap.size, 0, none⟩ = some (.int .i64 1) := fun V hb => by
    have := (hX8.keep hb).at (CA_at64 cc 0 (by omega) (by omega))
    rw [hcc0.out] at this
    exact this
  have hx6 : ¬ bkB K W6.heap.size := by
    rintro (e | e | e)
    · exact absurd ((rw_kind hB8.fe).uniq (e ▸ hX8.kindR)) (by decide)
    · exact absurd ((rw_kind hB8.be).uniq (e ▸ hX8.kindR)) (by decide)
    · exact hB8.ce.noKind 54 (e ▸ hX8.kindR)
  clear HCe hX7 b6 b7 C8 b58 hB5 hw5
  generalize W6.heap.size = g6 at *
  go_upto_region 7 with (go_at_call 22; refine HCl.mono ?_; rintro e W9 ⟨rfl, b9⟩; obtain ⟨W10, hE10, hX10, b10⟩ := blk1 W9 #[.int .i64 1, .int .i64 (-9223372036854775808)] 38)
  have hB10 := (hB8.keep b9).keep b10
  have b810 := ab_trans b9 b10
  have hw10 := ab_trans hw8 b810
  have HLi := balist_of 0 (1, -9223372036854775808) 9 [(0, 1)] W10 hB10 (by omega) (by omega) (by simp) (fun p hp => by simp at hp; subst hp; exact hkk) (fun W hW => by
    refine bacoll_any (0 : Int) (1, -9223372036854775808) W (hB10.keep hW) _ ?_
    intro v got V hpm hO hV
    have hgot : got = [(0, 0, 1)] := by
      rw [k1] at hpm
      exact (List.singleton_perm.1 hpm).symm
    subst hgot
    have hpl : plsK 0 (1, -9223372036854775808) [(0, 0, 1)] = [(0, 1)] := by decide
    rw [hpl] at hO
    obtain ⟨q, cap, rfl⟩ := hO.form
    refine (basort_one q 1 cap _ (by omega) V).mono ?_
    rintro e V2 ⟨rfl, rfl⟩
    exact ⟨rfl, ⟨_, rfl, own_less hO hW.size, hV⟩⟩)
  have hel : (min (9 : Int) (([((0 : Int), (1 : Int))] : List (Int × Int)).length : Int)).toNat = 1 := by decide
  rw [hel] at HLi
  have y0 : W10.cell? ⟨W9.heap.size, 0, none⟩ = some (.int .i64 1) := hX10.at rfl
  have y1 : W10.cell? ⟨W9.heap.size, 1, none⟩ = some (.int .i64 (-9223372036854775808)) := hX10.at rfl
  go_upto_region 8 with (go_at_call 24; refine HLi.mono ?_; rintro e W11 ⟨v11, rfl, hO11, b11⟩)
  obtain ⟨q11, c11, e11⟩ := hO11.form
  have hel2 : (entL S1 ((0 : Nat) : Int) [((0 : Int), (1 : Int))] 1).length = 1 := rfl
  rw [hel2] at e11
  subst e11
  have hB11 := hB10.keep b11
  have hX11 := hX10.keep b11
  have hw11 := ab_trans hw10 b11
  have b811 := ab_trans b810 b11
  have HRa := baraise_ok 0 (1, -9223372036854775808) W11 hB11 (by omega) (by unfold J64; dsimp only; omega)
  rw [k1, k7] at HRa
  have g0 : W11.cell? ⟨W9.heap.size, 0, none⟩ = some (.int .i64 1) := hX11.at rfl
  have g1 : W11.cell? ⟨W9.heap.size, 1, none⟩ = some (.int .i64 (-9223372036854775808)) := hX11.at rfl
  have hx9 : ¬ bkB K W9.heap.size := fun hk => absurd (hB8.bks hk).2 (Nat.not_lt.2 b9.size)
  have hX8' := hX8.keep b811
  have hLen := fun (V : World) (hq : Bq V A.heap.size K (drpB (lifB S1 0 (1, -9223372036854775808)))) => blen_any V hq
  rw [k7] at hLen
  clear HLi HCl y0 y1 x0 hO11 hX10 hB10 hB8 hE10 hX8
  go_wp2_with (first
    | (go_at_call 18; refine HRa.mono ?_; rintro e W12 ⟨rfl, hB12, hF12⟩
       have z0 : W12.cell? ⟨W9.heap.size, 0, none⟩ = some (.int .i64 1) := (hX11.frm hF12 hx9).at rfl
       have z1 : W12.cell? ⟨W9.heap.size, 1, none⟩ = some (.int .i64 (-9223372036854775808)) := (hX11.frm hF12 hx9).at rfl
       have z2 : W12.cell? ⟨g6, 0, none⟩ = some (.int .i64 1) := (by
         have := (hX8'.frm hF12 hx6).at (CA_at64 cc 0 (by omega) (by omega))
         rw [hcc0.out] at this
         exact this))
    | (go_at_call 16; refine (hLen _ hB12).mono ?_; rintro e W12 ⟨rfl, rfl⟩))
  go_ret
  exact ⟨by first | rfl | simp, hw11.trans (hF12.below hw11.size hge)⟩
end Go.Proofs.Ytoeilckeebojmaa
