/-
  A frame of which one byte behind its length is another one isn't whole, and no beginning of it is: estuarylaw04.FrameTurns returns true for every input; no condition.
-/
import Derived.Test.YtgimkaklocmhkabFrE
import Derived.Test.YtgimkaklocmhkabFrU
import Derived.Test.YtgimkaklocmhkabFrL
import Derived.ProofKit
import Derived.OpenShut
import Derived.ChangeOld
import Derived.Below
import Derived.Lib.SmallJoins
namespace Go.Proofs.Ytgimkaklocmhkab.frameTurns
open Go.ChangeShapes Go.WideShapes Go.ChangeAt Go.RowKit Go.Joins
set_option linter.unusedVariables false

theorem flat1l (a : List Nat) : [a].flatten = a := by simp
theorem all1 {a : List Nat} (ha : Byt a) : ∀ l ∈ [a], Byt l := by intro l hl; simp at hl; subst hl; exact ha
theorem Lis.none {W : World} {base : Nat} {v : Value} {vs : List Value} {ls : List (List Nat)} (h : Lis W base v vs ls) : ∃ q cap, v = .slice q ls.length cap := by
  obtain ⟨_, q, g, cap, e, _⟩ := own_open h.row (by omega)
  exact ⟨q, cap, e⟩
theorem at_k (t : Int) (na : Nat) (hna : na ≤ 2000) : ∃ kk : Nat, 4 ≤ kk ∧ kk < 8 + na ∧ wrap64 (4 + wrap64 ((IntKind.u64.wrap t).tmod (8 + (na : Int) - 4))) = ((kk : Nat) : Int) := by
  have h0 : 0 ≤ t % 18446744073709551616 := Int.emod_nonneg _ (by decide)
  rw [IntKind.wrap_u64]
  generalize t % 18446744073709551616 = T at *
  obtain ⟨u, rfl⟩ := Int.eq_ofNat_of_zero_le h0
  have e : (8 : Int) + (na : Int) - 4 = ((4 + na : Nat) : Int) := by omega
  have hz := Nat.mod_lt u (show 0 < 4 + na by omega)
  refine ⟨4 + u % (4 + na), Nat.le_add_right _ _, by omega, ?_⟩
  rw [e, Int.tmod_eq_emod_of_nonneg h0, ← Int.natCast_emod]
  generalize u % (4 + na) = z at *
  unfold wrap64
  omega
theorem by_x (y : Int) (x : Nat) (hx : x < 256) : ∃ z : Nat, z < 256 ∧ x ≠ z ∧ bits .xor .u8 ((x : Nat) : Int) (IntKind.u64.wrap (1 + (IntKind.u64.wrap y).tmod 255) % 256) = ((z : Nat) : Int) := by
  have h0 : 0 ≤ y % 18446744073709551616 := Int.emod_nonneg _ (by decide)
  rw [IntKind.wrap_u64, IntKind.wrap_u64]
  generalize y % 18446744073709551616 = T at *
  obtain ⟨u, rfl⟩ := Int.eq_ofNat_of_zero_le h0
  have hz := Nat.mod_lt u (show 0 < 255 by omega)
  rw [Int.tmod_eq_emod_of_nonneg h0, show ((u : Int) % 255) = ((u % 255 : Nat) : Int) from by omega]
  generalize u % 255 = m at *
  have e : (1 + (m : Int)) % 18446744073709551616 % 256 = ((1 + m : Nat) : Int) := by omega
  rw [e, u8_xor_nat x (1 + m) hx (by omega)]
  refine ⟨_, ?_, fun h => ?_, rfl⟩
  · have := Nat.xor_lt_two_pow (x := x) (y := 1 + m) (n := 8) (by omega) (by omega)
    omega
  · have h2 : x ^^^ 0 = x ^^^ (1 + m) := by rw [Nat.xor_zero]; exact h
    have := xor_cancel h2
    omega
set_option maxRecDepth 100000 in
set_option maxHeartbeats 1000000 in
theorem walk {W : World} (v0 : Value) (a : List Nat) (S0 : Sl W v0 a) (B0 : Byt a) (t : Int) (ht : -9223372036854775808 ≤ t ∧ t ≤ 9223372036854775807) (y : Int) (hy : -9223372036854775808 ≤ y ∧ y ≤ 9223372036854775807) :
    Calls Try.prog 3 #[v0, .int .i64 t, .int .i64 y] W fun e w' => e = .returned (.bool true) ∧ Below W.heap.size W w' := by
  obtain ⟨q0, c0, e0, -⟩ := id S0
  subst e0
  go_enter Try.func3, Try.ntmps3
  go_upto_region 3 with (go_at_call 5; refine (alive4_any _).mono ?_; rintro e V1 ⟨rfl, hb1⟩)
  have S01 := S0.keep hb1
  have HF1 : Hid ([a].flatten = a) := flat1l a
  have HA1 : Hid (∀ l ∈ [a], Byt l) := all1 B0
  have HFL : Hid ((frm a).length = 8 + a.length) := frm_len a
  have HFB : Hid (Byt (frm a)) := frm_byt B0
  have HT : Hid (∀ k x, a.length ≤ 16376 → 4 ≤ k → k < 8 + a.length → x < 256 → (frm a).getD k 0 ≠ x → insOK ((frm a).set k x) = false) := fun k x h1 h2 h3 h4 h5 => ins_turned a B0 k x h1 h2 h3 h4 h5
  have HC : Hid (∀ k, k < 8 + a.length → a.length ≤ 16376 → spt ((frm a).take k) = []) := fun k h1 h2 => spt_stop (ins_cut a k h1 h2)
  generalize hna : a.length = na at *
  by_cases hbig : 2000 < na
  · go_wp2_with fail
    go_ret
    exact ⟨rfl, hb1⟩
  · go_upto_region 8 with (first
      | (refine bs_ls rfl rfl [_] [a] (by simp only [List.map_toArray, List.map_cons, List.map_nil]; rfl) (bsl1 _ _ _ _) rfl (by decide) rfl (each1 S01) ?_; intro V2 hls2 hb2 hbk2)
      | (go_at_call 6; refine (wrap_ok _ _ _ _ hls2 HA1.out (by rw [HF1.out, hna]; omega)).mono ?_; rw [HF1.out]; rintro e V3 ⟨v3, rfl, HO3, hn3, hb3⟩))
    have hbV := ab_trans hb1 (ab_trans hb2 hb3)
    have hV2 : V1.heap.size ≤ V2.heap.size := hb2.size
    clear hls2 hbk2 S01
    obtain ⟨g3, cap3, e3, hg3, hgl3, hc3, hm3, hcell3⟩ := own_cells HO3 hn3
    rw [HFL.out] at e3
    subst e3
    go_wp2_with fail
    go_loopw [28] (fun i wr => ∃ k : Nat, k ≤ 8 + na ∧ i = .int .i64 (k : Int) ∧ Below V3.heap.size V3 wr) (fun i _ => 8 + na - (intOf i).toNat)
    case atStart => exact ⟨0, by omega, rfl, Below.refl _ _⟩
    case round =>
      obtain ⟨k, hk, rfl, hbk⟩ := hrel
      have HOk := HO3.keep hbk
      by_cases c : k = 8 + na
      · subst c
        obtain ⟨kk, hk4, hkk, HK⟩ := at_k t na (by omega)
        go_upto_region 17 with fail
        rw [HK]
        clear HK
        have hgt : (frm a)[kk]? = some ((frm a).getD kk 0) := getD_at (by rw [HFL.out]; exact hkk)
        have hxb := HFB.out.getD kk
        have hOwn : wr.ownsRow V2.heap.size 5 1 (.slice (some ⟨g3, 0, none⟩) (8 + na) cap3) (8 + na) (bys (frm a)) := by
          have := HOk
          unfold Ow at this
          rwa [HFL.out] at this
        have HTk := HT.out kk
        generalize hx : (frm a).getD kk 0 = x at *
        have d := hOwn.cellAt kk (by omega)
        have fz := hOwn.frozenAt kk
        rw [bys_at, hgt, Option.map_some] at d
        have hkki : (kk : Int) < 8 + (na : Int) := by omega
        clear hgt hx HOk
        obtain ⟨z, hz, hxz, HZ⟩ := by_x y x hxb
        go_upto_region 18 with fail
        clear HZ
        have hst := (hOwn.stored kk (.int .u8 ((z : Nat) : Int))).1
        rw [bys_set] at hst
        have hbW : Below W.heap.size W (wr.setCell ⟨g3, kk, none⟩ (.int .u8 ((z : Nat) : Int))) := ab_set (ab_trans hbV hbk) (Nat.le_trans (Nat.le_trans hb1.size hV2) hg3) _
        have HNO : Hid (insOK ((frm a).set kk z) = false) := HTk z (by omega) hk4 hkk hz hxz
        have HBy : Hid (Byt ((frm a).set kk z)) := HFB.out.set kk z hz
        generalize wr.setCell ⟨g3, kk, none⟩ (.int .u8 ((z : Nat) : Int)) = WS at *
        have hSs := (own_sl hst).2
        have heq := eq33
        clear d fz hOwn hst HTk
        go_wp2_with (go_at_call 8; refine (unwrap_no _ _ _ hSs HBy.out HNO.out).mono ?_; rintro e V6 ⟨rfl, hb6⟩)
        go_ret
        exact ⟨rfl, ab_trans hbW hb6⟩
      · have hki : (k : Int) < 8 + (na : Int) := by omega
        have hkn : k < 8 + na := by omega
        have HSk : Hid (spt ((frm a).take k) = []) := HC.out k hkn (by omega)
        have HBk : Hid (Byt ((frm a).take k)) := HFB.out.take k
        have HLk : Hid (((frm a).take k).length ≤ 1000000) := by show _ ≤ _; rw [List.length_take, HFL.out]; omega
        have hsl := HOk.sl
        by_cases c1 : 40 < k ∧ k < 8 + na - 40
        · obtain ⟨c1, c2⟩ := c1
          have c2' : (k : Int) < 8 + (na : Int) - 40 := by omega
          go_wp2_with fail
          exact ⟨⟨k + 1, by omega, rfl, hbk⟩, by simp only [intOf]; omega⟩
        · have HG : Hid (40 < k → ¬ (k : Int) < 8 + (na : Int) - 40) := fun h1 h2 => c1 ⟨h1, by omega⟩
          clear c1
          by_cases c1 : 40 < k
          · have c2 := HG.out c1
            go_wp2_with (first
              | (refine slb_h rfl rfl k rfl rfl rfl (by omega) hsl ?_; intro q4 s4)
              | (go_at_call 7; refine (split_any _ _ _ s4 HBk.out HLk.out).mono ?_; rw [HSk.out]; rintro e V5 ⟨v5, vs5, rfl, hL5, hb5⟩; obtain ⟨q5, cap5, e5⟩ := Lis.none hL5; subst e5))
            exact ⟨⟨k + 1, by omega, rfl, ab_trans hbk hb5⟩, by simp only [intOf]; omega⟩
          · go_wp2_with (first
              | (refine slb_h rfl rfl k rfl rfl rfl (by omega) hsl ?_; intro q4 s4)
              | (go_at_call 7; refine (split_any _ _ _ s4 HBk.out HLk.out).mono ?_; rw [HSk.out]; rintro e V5 ⟨v5, vs5, rfl, hL5, hb5⟩; obtain ⟨q5, cap5, e5⟩ := Lis.none hL5; subst e5))
            exact ⟨⟨k + 1, by omega, rfl, ab_trans hbk hb5⟩, by simp only [intOf]; omega⟩

theorem own : ownKnob Try.prog.godebug = none := by kernel_rfl
theorem laidOut : laidOutB Try.prog = true := by kernel_rfl

set_option maxRecDepth 100000 in
theorem lifted (os : Os) (started : os.Started) (H : Type) (enc : TypeId × Value → H) :
    ReturnsInHanded {} Try.checked os 3 .any (Rows.frameTurnsSpec.pre6 enc Try.prog Try.f3 Rows.frameTurnsRow.domain false) (Rows.frameTurnsSpec.post enc Try.prog Try.f3 false true false false) := by
  refine returnsInHanded_of_change (C := Try.checked) own started (by kernel_rfl) Try.func3
    (ChangeSpec.witness6 (enc := enc) (C := Try.checked) false ⟨#[], #[.slice none 0 0, .int .i64 0, .int .i64 0], []⟩ 8 (by kernel_rfl) (by kernel_rfl) (by kernel_rfl) (by kernel_rfl)) ?_
  intro W base args ds gs before hval0 hW hcnd _
  have hval : ∀ (j : Nat) t v, Try.f3.params[j]? = some t → args[j]? = some v → Value.okWide Try.prog W .any base t v := hval0
  have hW' := hW
  obtain ⟨p, q, hA0, hV, rfl, hfz, hnd⟩ := hW
  have hA : DataW.TrodAll enc Try.prog W 0 (fun _ => true) true Try.f3.params.toList args.toList ds p := hA0
  rw [Try.params3] at hA hval
  obtain ⟨v0, vs0, d0, ds0, p0, q0, hargs, rfl, rfl, h0, r0⟩ := trodAll_cons hA
  obtain ⟨v1, vs1, d1, ds1, p1, q1, rfl, rfl, rfl, h1, r1⟩ := trodAll_cons r0
  obtain ⟨v2, vs2, d2, ds2, p2, q2, rfl, rfl, rfl, h2, r2⟩ := trodAll_cons r1
  obtain ⟨rfl, rfl, rfl⟩ := trodAll_nil r2
  obtain rfl : args = #[v0, v1, v2] := by cases args; simp_all
  obtain ⟨rfl, rfl⟩ := trodVars_none hV
  have k0 := h0
  have lt0 : ∀ x ∈ p0, x.block < W.heap.size := by obtain ⟨m, hm⟩ := k0; exact DataW.trod_lt m _ _ _ hm
  have k1 := h1
  have lt1 : ∀ x ∈ p1, x.block < W.heap.size := by obtain ⟨m, hm⟩ := k1; exact DataW.trod_lt m _ _ _ hm
  have k2 := h2
  have lt2 : ∀ x ∈ p2, x.block < W.heap.size := by obtain ⟨m, hm⟩ := k2; exact DataW.trod_lt m _ _ _ hm
  obtain ⟨l0_, S0_, B0_⟩ := open_bytes (hval 0 22 v0 rfl rfl) h0
  obtain ⟨a1, rfl, rfl, rfl, w1⟩ := open_int Try.underlying3 (hval 1 3 v1 rfl rfl) h1
  obtain ⟨a2, rfl, rfl, rfl, w2⟩ := open_int Try.underlying3 (hval 2 3 v2 rfl rfl) h2
  clear hA0 hval0
  refine (walk v0 l0_ S0_ B0_ a1 (bounds_i64 w1) a2 (bounds_i64 w2)).mono fun e W' ⟨he, bel⟩ => ?_
  subst he
  exact ⟨_, rfl, _, _, _, [], _, [], hW', trodAll_mk1 (shut_bool Try.underlying4 _), (trodAll_cons_mk (Below.trod laidOut (by kernel_rfl) (of_decide_eq_true (by kernel_rfl)) k0 bel lt0) (trodAll_cons_mk (Below.trod laidOut (by kernel_rfl) (of_decide_eq_true (by kernel_rfl)) k1 bel lt1) (trodAll_cons_mk (Below.trod laidOut (by kernel_rfl) (of_decide_eq_true (by kernel_rfl)) k2 bel lt2) trodAll_mk0))), rfl, bel.frame _, fun h => by cases h⟩

theorem over : Rows.frameTurnsRow.holds Try.pinned (OpenSpec.ofChange Rows.frameTurnsSpec) :=
  OpenClaim.holds_of_wide 3 Try.f3 rfl rfl rfl rfl rfl rfl rfl ⟨rfl, rfl, rfl, rfl, rfl⟩ rfl rfl rfl rfl rfl (by kernel_rfl) Try.func3 (by kernel_rfl)
    (of_decide_eq_true (by kernel_rfl)) (by unfold Func.isWrapper; first | (rw [if_pos (by decide +kernel)]; kernel_rfl) | (rw [if_neg (by decide +kernel)]; exact ⟨rfl, rfl⟩))
    (fun os started H enc _ => lifted os started H enc)

theorem proved : Rows.FrameTurnsSaid := over
end Go.Proofs.Ytgimkaklocmhkab.frameTurns
namespace Go.Proofs.Ytgimkaklocmhkab
theorem frameTurns_holds : Rows.FrameTurnsSaid := frameTurns.proved
#print axioms frameTurns_holds
end Go.Proofs.Ytgimkaklocmhkab
