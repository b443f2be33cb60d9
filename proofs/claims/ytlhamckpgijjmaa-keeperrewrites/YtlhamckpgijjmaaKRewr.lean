/-
  However many notes: estuarylaw12.KeeperRewrites returns true for every input; no condition.
-/
import Derived.Test.YtlhamckpgijjmaaPk54
import Derived.ProofKit
import Derived.OpenShut
import Derived.ChangeOld
import Derived.Below
namespace Go.Proofs.Ytlhamckpgijjmaa.keeperRewrites
open Go.ChangeShapes Go.WideShapes Go.ChangeAt Go.RowKit Go.Joins
set_option linter.unusedVariables false
set_option maxRecDepth 100000

theorem mod_natR (x : Int) (n : Int) (h0 : 0 < n) (h1 : n ≤ 4096) : ∃ k : Nat, (k : Int) < n ∧ wrap64 ((IntKind.u64.wrap x).tmod n) = (k : Int) := by
  have hx : 0 ≤ IntKind.u64.wrap x := by rw [IntKind.wrap_u64]; omega
  have he : (IntKind.u64.wrap x).tmod n = IntKind.u64.wrap x % n := Int.tmod_eq_emod_of_nonneg hx
  have h2 := Int.emod_nonneg (IntKind.u64.wrap x) (show n ≠ 0 by omega)
  have h3 := Int.emod_lt_of_pos (IntKind.u64.wrap x) h0
  refine ⟨(IntKind.u64.wrap x % n).toNat, by omega, ?_⟩
  rw [he, Int.toNat_of_nonneg h2]
  generalize IntKind.u64.wrap x % n = r at *
  unfold wrap64
  omega
theorem tmod_nat (i k : Nat) : ∃ key : Nat, key < 1 + k ∧ (i : Int).tmod (1 + (k : Int)) = (key : Int) := by
  have h2 := Int.emod_nonneg (i : Int) (show (1 + (k : Int)) ≠ 0 by omega)
  have h3 := Int.emod_lt_of_pos (i : Int) (show 0 < (1 + (k : Int)) by omega)
  exact ⟨((i : Int) % (1 + (k : Int))).toNat, by omega, by rw [Int.tmod_eq_emod_of_nonneg (by omega), Int.toNat_of_nonneg h2]⟩
def arL (ls : List Nat) : Array Value := (ls.map fun m : Nat => Value.int .i64 (m : Int)).toArray
theorem arL_set (ls : List Nat) (key i : Nat) : (arL ls).setIfInBounds key (.int .i64 (i : Int)) = arL (ls.set key i) := by
  unfold arL
  simp [List.map_set]
theorem arL_size (ls : List Nat) : (arL ls).size = ls.length := by unfold arL; simp
theorem arL_at {ls : List Nat} {key : Nat} (h : key < ls.length) : (arL ls)[key]? = some (.int .i64 ((ls.getD key 0 : Nat) : Int)) := by
  unfold arL
  simp [List.getD_eq_getElem?_getD, List.getElem?_eq_getElem h]
theorem index_arL {ls : List Nat} (hl : ls.length = 8) (key : Nat) (hk : key < 8) (W : World) : (Instr.index 52 (.agg (arL ls)) (.int .i64 (key : Int))).run Try.prog W = .ok (.int .i64 ((ls.getD key 0 : Nat) : Int)) W := by
  have hs : (sizeOf 3).run Try.prog W = .ok 1 W := by kernel_rfl
  unfold Instr.index
  simp only [asIntOf, Sem.run_bind, Sem.run_pure, Result.andThen_ok, run_underlying Try.underlying52]
  rw [if_pos (by omega)]
  have ha := arL_at (ls := ls) (key := key) (by omega)
  simp [hs, Result.andThen_ok, part, Int.toNat_natCast, ha]
theorem info_arL {ls : List Nat} (hl : ls.length = 8) : (Try.prog.info? 52).map (·.size) = some (arL ls).size := by
  rw [arL_size, hl]
  kernel_rfl
theorem _root_.Go.Proofs.Ytlhamckpgijjmaa.RW.le {W : World} {base b : Nat} {v : Value} {d kb n i : Nat} {ls : List Nat} (h : RW W base b v d kb n i ls) : base ≤ W.heap.size := by
  obtain ⟨rs, os, hK, h2⟩ := h.ex
  have := hK.kp.ages
  omega
theorem _root_.Go.Proofs.Ytlhamckpgijjmaa.RW.chgA {W W' : World} {base b : Nat} {v : Value} {d kb n i : Nat} {ls : List Nat} {g : Nat} {xs : Array Value} (h : RW W base b v d kb n i ls) (c : Chg g W W') (hX : Blk W g xs 52) : RW W' base b v d kb n i ls := by
  obtain ⟨rs, os, hK, h2⟩ := h.ex
  have k := hK.kp
  exact ⟨⟨rs, os, ⟨⟨⟨k.tp.ge, k.tp.blk.chg c (blk_ne k.tp.blk hX (by decide)), own_chgT k.tp.own c (blk_own k.tp.own hX (by decide)), k.tp.sure, k.tp.max, k.tp.bo, k.tp.br⟩, k.dy.chg c (blk_ne k.dy hX (by decide)), k.kp.chg c (blk_ne k.kp hX (by decide)), k.len, fun r hr => own_chgT (k.im r hr) c (blk_own (k.im r hr) hX (by decide)), k.gd, k.gk⟩, hK.rg, hK.at', hK.rd, hK.few⟩, h2⟩, h.lt, h.len, h.st⟩
set_option maxHeartbeats 8000000 in
theorem rewr_walk (no ke : Int) (w : World) :
    Calls Try.prog 4 #[.int .i64 no, .int .i64 ke] w fun e w' => e = .returned (.bool true) ∧ Below w.heap.size w w' := by
  go_enter Try.func4, Try.ntmps4
  go_wp2_with fail
  refine (alive12_any _).mono ?_
  rintro e W1 ⟨rfl, b1⟩
  obtain ⟨N, hN, hNe⟩ := mod_natR no 500 (by omega) (by omega)
  obtain ⟨k, hk, hke⟩ := mod_natR ke 8 (by omega) (by omega)
  go_upto_region 4 with fail
  rw [hNe, hke]
  clear hNe hke
  go_wp2_with fail
  refine (new_any _).mono ?_
  rintro e W2 ⟨rfl, h2, b2⟩
  go_wp2_with fail
  refine (kopen_new _ _ _ 0 0 0 _ h2 (by omega) (by omega) (by omega)).mono ?_
  rintro e W3 ⟨d, kb, v3, rfl, hK3, hd, hkb, m3⟩
  have hb3 : Below w.heap.size w W3 := ab_trans b1 (b2.trans (h2.below m3))
  have hs1 := b1.size
  have E1 := ne00
  clear h2 b2 m3
  go_upto_region 9 with fail
  clear E1
  generalize hAe : W3.alloc _ = A
  have hB : Blk A W3.heap.size (arL (List.replicate 8 0)) 52 := by rw [← hAe]; exact Blk.new _ _ _
  have vA : Below W3.heap.size W3 A := by rw [← hAe]; exact (Below.refl _ _).alloc (Nat.le_refl _) _
  have hR := rw_new (hK3.keep vA)
  have hbA := ab_trans hb3 vA
  have hs3 := hb3.size
  clear hAe hK3 hb3
  go_wp2_with fail
  go_loopw [9] (fun iv wr => ∃ (i n : Nat) (v : Value) (ls : List Nat), 1 ≤ i ∧ i ≤ N + 1 ∧ iv = .int .i64 (i : Int) ∧ RW wr W1.heap.size W1.heap.size v d kb n i ls ∧ Blk wr W3.heap.size (arL ls) 52 ∧ Below w.heap.size w wr) (fun i _ => 600 - (intOf i).toNat)
  case atStart => exact ⟨1, 0, v3, _, by omega, by omega, rfl, hR, hB, hbA⟩
  case round =>
    clear hR hB hbA vA
    obtain ⟨i, n, v, ls, hi1, hi2, rfl, hR, hB, hb⟩ := hrel
    by_cases ci : i = N + 1
    · have z1 : ¬ (i : Int) ≤ (N : Int) := by omega
      clear z1
      go_upto_region 17 with fail
      go_wp2_with fail
      refine (rw_crash hR (by omega)).mono ?_
      rintro e V1 ⟨rfl, v1, rs, s1, hT1, hrd, hfew, hat, m1⟩
      have h8 := hR.len
      have hlt := hR.lt
      have hst := hR.st
      have hB1 : Blk V1 W3.heap.size (arL ls) 52 := by
        obtain ⟨rs, os, hK, -⟩ := hR.ex
        exact hB.mv hK.kp.tp m1 (by decide) (by decide)
      have hw1 : Below w.heap.size w V1 := by
        obtain ⟨rs, os, hK, -⟩ := hR.ex
        exact hb.trans ((hK.kp.tp.below m1).mono hs1)
      clear hR hB hb m1
      go_wp2_with fail
      refine (kopen_rows _ _ v1 rs s1 n 0 V1 hT1 (by omega) (by omega) (by omega) (fun r hr => ⟨Nat.le_trans (hrd r hr).2.2 (by omega), (hrd r hr).2.1⟩) (fun l hl => (hrd l hl).1)).mono ?_
      rintro e V2 ⟨d2, kb2, v2, os, rfl, hK2, hat2, hd2, hkb2, m2⟩
      have hB2 : Blk V2 W3.heap.size (arL ls) 52 := hB1.mv hT1 m2 (by decide) (by decide)
      have hw2 : Below w.heap.size w V2 := hw1.trans ((hT1.below m2).mono hs1)
      have E1 := ne00
      clear hT1 hB1 hw1 m2
      go_upto_region 21 with fail
      clear E1
      go_wp2_with (refine ld_blk rfl rfl hB2 rfl _ Try.underlying52 rfl (info_arL h8) ?_)
      have HIX : Hid (∀ key : Nat, key < 8 → ∀ W, (Instr.index 52 (.agg (arL ls)) (.int .i64 (key : Int))).run Try.prog W = .ok (.int .i64 ((ls.getD key 0 : Nat) : Int)) W) := fun key hk W => index_arL h8 key hk W
      generalize arL ls = arr at HIX ⊢
      clear hB2
      have hrg : ∀ key : Nat, key < 8 → ∃ x, os[key]? = some x ∧ rgK x = rgM (ls.getD key 0) := fun key hk => by
        have hl := hK2.len
        exact ⟨os[key]'(by omega), List.getElem?_eq_getElem _, by rw [hat2 key _ (List.getElem?_eq_getElem (by omega)), hat key hk]⟩
      have HW : Hid (Below w.heap.size w V2) := hw2
      clear hat hat2 hrd hfew hlt hst hw2 hi1 hi2 ci
      go_wp2_with fail
      go_loopw [87] (fun kv wr => ∃ key : Nat, key ≤ 8 ∧ kv = .int .i64 (key : Int) ∧ Below V2.heap.size V2 wr) (fun kv _ => 8 - (intOf kv).toNat)
      case atStart => exact ⟨0, by omega, rfl, Below.refl _ _⟩
      case round =>
        obtain ⟨key, hk8, rfl, hb⟩ := hrel
        by_cases ck : key = 8
        · subst ck
          go_wp2_with fail
          go_ret
          exact ⟨rfl, ab_trans HW.out hb⟩
        have hki : (key : Int) < 8 := by omega
        have hkn : key < 8 := by omega
        have hix := HIX.out key hkn
        obtain ⟨x, hx, hr⟩ := hrg key hkn
        obtain ⟨m, hm⟩ : ∃ m, ls.getD key 0 = m := ⟨_, rfl⟩
        rw [hm] at hix hr
        clear hm
        have hxm := List.mem_of_getElem? hx
        have hl1 : x.l.length ≤ 100000 := by
          have : x.l = (rgM m).l := by rw [← hr]; rfl
          rw [this, rgM_len]
          split <;> simp
        go_upto_region 24 with fail
        clear hix
        go_wp2_with fail
        refine (kregister_any kb2 d2 key 0 os x _ (hK2.keep hb).kp hx (by omega) ((hK2.keep hb).im x hxm).is hl1).mono ?_
        rw [hr]
        rintro e V3 ⟨⟨q3, n3, c3, rfl, hO3, hn3⟩, b3⟩
        rw [rgM_len] at hn3 hO3
        obtain ⟨p, a, l⟩ : Rg := rgM m
        have hbb := ab_trans hb b3
        by_cases hm0 : m = 0
        · subst hm0
          rw [if_pos rfl] at hn3 hO3
          have hn3 : n3 = 0 := hn3.symm
          subst hn3
          go_upto_region 25 with fail
          generalize hAe : V3.alloc _ = A
          have hB : Blk A V3.heap.size (rC p a (.slice q3 0 c3)) 40 := by rw [← hAe]; exact Blk.new _ _ _
          have vA : Below V3.heap.size V3 A := by rw [← hAe]; exact (Below.refl _ _).alloc (Nat.le_refl _) _
          have r6 : A.cell? ⟨V3.heap.size, 6, none⟩ = some (.slice q3 0 c3) := hB.at rfl
          have hbA := ab_trans hbb vA
          clear hAe hB vA hO3
          go_wp2_with fail
          exact ⟨⟨key + 1, by omega, rfl, hbA⟩, by simp only [intOf]; omega⟩
        · rw [if_neg hm0] at hn3 hO3
          have hn3 : n3 = 1 := hn3.symm
          subst hn3
          go_upto_region 25 with fail
          generalize hAe : V3.alloc _ = A
          have hB : Blk A V3.heap.size (rC p a (.slice q3 1 c3)) 40 := by rw [← hAe]; exact Blk.new _ _ _
          have vA : Below V3.heap.size V3 A := by rw [← hAe]; exact (Below.refl _ _).alloc (Nat.le_refl _) _
          have hOA := hO3.keep vA
          obtain ⟨gq, oq, rfl, -, rq⟩ := hOA.is.at (by omega)
          have r6 : A.cell? ⟨V3.heap.size, 6, none⟩ = some (.slice (some ⟨gq, oq, none⟩) 1 c3) := hB.at rfl
          have v0 : A.cell? ⟨gq, oq, none⟩ = some (.int .i64 (m : Int)) := rq 0 _ rfl
          have hbA := ab_trans hbb vA
          have z1 : ((m : Int) == 0) = false := by rw [beq_eq_false_iff_ne]; omega
          have z2 : (0 : Int) < (m : Int) := by omega
          clear hAe hB vA hO3 rq hOA hm0
          go_wp2_with fail
          exact ⟨⟨key + 1, by omega, rfl, hbA⟩, by simp only [intOf]; omega⟩
    have z1 : (i : Int) ≤ (N : Int) := by omega
    obtain ⟨key, hky, hkm⟩ := tmod_nat i k
    go_upto_region 13 with fail
    have hb1 := hR.le
    have hk8 : key < 8 := by omega
    clear hkm
    go_wp2_with (refine bs_own rfl rfl [(key : Int), (i : Int), 2, 0, (i : Int)] (by simp only [List.map_toArray, List.map_cons, List.map_nil]; rfl) (isl5k _ _ _ _ _ _) rfl (by decide) ?_; intro V1 hN1 v1 z9; clear z9; go_frame)
    have hR1 := hR.keep v1
    have hB1 := hB.keep v1
    have hI1 : Ik V1 W1.heap.size _ (nM key i).ns := .inl ((io_of (l := [(key : Int), (i : Int), 2, 0, (i : Int)]) hN1).less hb1)
    have hw1 := ab_trans hb v1
    clear hR hB hN1 hb v1
    refine (rw_handle hR1 (by omega) (by omega) hk8 _ hI1).mono ?_
    rintro e V2 ⟨v2, n2, m2, u2, hR2, hA2⟩
    have hB2 : Blk V2 W3.heap.size (arL ls) 52 := by
      obtain ⟨rs, os, hK, -⟩ := hR1.ex
      exact hB1.km m2 hK.kp (by decide) (by decide) (by decide) (by decide)
    have hw2 : Below w.heap.size w V2 := hw1.trans (u2.mono hs1)
    obtain ⟨g2, q2, n9, c2, rfl, -, hN2, -, -⟩ := hA2
    have hN2 : Blk V2 g2 (ntC 4 0 2 (.slice q2 n9 c2) (.slice none 0 0) (.slice none 0 0)) 35 := hN2
    have y0 : V2.cell? ⟨g2, 0, none⟩ = some (.int .i64 4) := hN2.at rfl
    clear hR1 hB1 hI1 hw1 m2 u2 hN2
    go_wp2_with fail
    refine (rw_rows hR2).mono ?_
    rintro e V3 ⟨nr, rfl, hnr, rfl⟩
    have z3 : ¬ (201 : Int) < (nr : Int) := by omega
    clear y0
    go_upto_region 16 with fail
    have h8 := hR2.len
    rw [List.length_set] at h8
    have c8 : V3.cell? ⟨W3.heap.size, key, none⟩ = some (.int .i64 ((ls.getD key 0 : Nat) : Int)) := hB2.at (arL_at (by omega))
    have f8 := hB2.frozen key
    have hB3 := hB2.set key (.int .i64 (i : Int))
    rw [arL_set] at hB3
    have C3 := chg_set V3 W3.heap.size key (.int .i64 (i : Int))
    have hR3 := RW.chgA hR2 C3 hB2
    have hw3 : Below w.heap.size w _ := ab_chg hw2 C3 hs3
    have hki : (key : Int) < 8 := by omega
    clear hR2 hB2 hw2 C3 hN2 z1 z3 hnr
    go_wp2_with fail
    exact ⟨⟨i + 1, n2, v2, _, by omega, by omega, rfl, hR3, hB3, hw3⟩, by simp only [intOf]; omega⟩
theorem walk (no : Int) (hno : -9223372036854775808 ≤ no ∧ no ≤ 9223372036854775807) (ke : Int) (hke : -9223372036854775808 ≤ ke ∧ ke ≤ 9223372036854775807) (w : World) :
    Calls Try.prog 4 #[.int .i64 no, .int .i64 ke] w fun e w' => e = .returned (.bool true) ∧ Below w.heap.size w w' := rewr_walk no ke w
theorem own : ownKnob Try.prog.godebug = none := by kernel_rfl
theorem laidOut : laidOutB Try.prog = true := by kernel_rfl

set_option maxRecDepth 100000 in
theorem lifted (os : Os) (started : os.Started) (H : Type) (enc : TypeId × Value → H) :
    ReturnsInHanded {} Try.checked os 4 .any (Rows.keeperRewritesSpec.pre6 enc Try.prog Try.f4 Rows.keeperRewritesRow.domain false) (Rows.keeperRewritesSpec.post enc Try.prog Try.f4 false true false false) := by
  refine returnsInHanded_of_change (C := Try.checked) own started (by kernel_rfl) Try.func4
    (ChangeSpec.witness6 (enc := enc) (C := Try.checked) false ⟨#[], #[.int .i64 0, .int .i64 0], []⟩ 8 (by kernel_rfl) (by kernel_rfl) (by kernel_rfl) (by kernel_rfl)) ?_
  intro W base args ds gs before hval0 hW hcnd _
  have hval : ∀ (j : Nat) t v, Try.f4.params[j]? = some t → args[j]? = some v → Value.okWide Try.prog W .any base t v := hval0
  have hW' := hW
  obtain ⟨p, q, hA0, hV, rfl, hfz, hnd⟩ := hW
  have hA : DataW.TrodAll enc Try.prog W 0 (fun _ => true) true Try.f4.params.toList args.toList ds p := hA0
  rw [Try.params4] at hA hval
  obtain ⟨v0, vs0, d0, ds0, p0, q0, hargs, rfl, rfl, h0, r0⟩ := trodAll_cons hA
  obtain ⟨v1, vs1, d1, ds1, p1, q1, rfl, rfl, rfl, h1, r1⟩ := trodAll_cons r0
  obtain ⟨rfl, rfl, rfl⟩ := trodAll_nil r1
  obtain rfl : args = #[v0, v1] := by cases args; simp_all
  obtain ⟨rfl, rfl⟩ := trodVars_none hV
  have k0 := h0
  have lt0 : ∀ x ∈ p0, x.block < W.heap.size := by obtain ⟨m, hm⟩ := k0; exact DataW.trod_lt m _ _ _ hm
  have k1 := h1
  have lt1 : ∀ x ∈ p1, x.block < W.heap.size := by obtain ⟨m, hm⟩ := k1; exact DataW.trod_lt m _ _ _ hm
  obtain ⟨a0, rfl, rfl, rfl, w0⟩ := open_int Try.underlying3 (hval 0 3 v0 rfl rfl) h0
  obtain ⟨a1, rfl, rfl, rfl, w1⟩ := open_int Try.underlying3 (hval 1 3 v1 rfl rfl) h1
  clear hA0 hval0
  refine (walk a0 (bounds_i64 w0) a1 (bounds_i64 w1) W).mono fun e W' ⟨he, bel⟩ => ?_
  subst he
  exact ⟨_, rfl, _, _, _, [], _, [], hW', trodAll_mk1 (shut_bool Try.underlying4 _), (trodAll_cons_mk (Below.trod laidOut (by kernel_rfl) (of_decide_eq_true (by kernel_rfl)) k0 bel lt0) (trodAll_cons_mk (Below.trod laidOut (by kernel_rfl) (of_decide_eq_true (by kernel_rfl)) k1 bel lt1) trodAll_mk0)), rfl, bel.frame _, fun h => by cases h⟩

theorem over : Rows.keeperRewritesRow.holds Try.pinned (OpenSpec.ofChange Rows.keeperRewritesSpec) :=
  OpenClaim.holds_of_wide 4 Try.f4 rfl rfl rfl rfl rfl rfl rfl ⟨rfl, rfl, rfl, rfl, rfl⟩ rfl rfl rfl rfl rfl (by kernel_rfl) Try.func4 (by kernel_rfl)
    (of_decide_eq_true (by kernel_rfl)) (by unfold Func.isWrapper; first | (rw [if_pos (by decide +kernel)]; kernel_rfl) | (rw [if_neg (by decide +kernel)]; exact ⟨rfl, rfl⟩))
    (fun os started H enc _ => lifted os started H enc)

theorem proved : Rows.KeeperRewritesSaid := over
end Go.Proofs.Ytlhamckpgijjmaa.keeperRewrites
namespace Go.Proofs.Ytlhamckpgijjmaa
theorem keeperRewrites_holds : Rows.KeeperRewritesSaid := keeperRewrites.proved
#print axioms keeperRewrites_holds
end Go.Proofs.Ytlhamckpgijjmaa
