/-
  A cell comes back from its numbers, with those behind it; what is taken has the same numbers: estuarylaw02.CellBack returns true for every input; no condition.
-/
import Derived.Test.YtnppdachbfcfkaaTakeAll
import Derived.Test.YtnppdachbfcfkaaFlat
namespace Go.Proofs.Ytnppdachbfcfkaa.cellBack
open Go.ChangeShapes Go.WideShapes Go.ChangeAt Go.RowKit
set_option linter.unusedVariables false

theorem big (c : Nat → Int) (q : Option Addr) (n cap : Nat) (w : World) (h : 2000 < n) : Calls Try.prog 8 #[.agg (CA c), .slice q n cap] w fun e w' => e = .returned (.bool true) ∧ Below w.heap.size w w' := by
  have h' : (2000 : Int) < (n : Int) := by omega
  go_enter Try.func8, Try.ntmps8
  go_wp2_with (go_at_call 9; refine (alive2_any _).mono ?_; rintro e W1 ⟨rfl, hb⟩)
  go_ret
  exact ⟨rfl, ab_trans (ab_alloc (Below.refl _ _) _) hb⟩

set_option maxRecDepth 100000 in
set_option maxHeartbeats 2000000 in
theorem small (c : Nat → Int) (q : Option Addr) (g off n cap : Nat) (more : List Int) (w : World) (hc : Wf c) (hn : more.length = n) (hk : n ≤ cap) (h : n ≤ 2000) (hp : 0 < n → q = some ⟨g, off, none⟩) (hg : 0 < n → g < w.heap.size) (hr : IRow w g off more) (hfit : ∀ x ∈ more, Fit x) :
    Calls Try.prog 8 #[.agg (CA c), .slice q n cap] w fun e w' => e = .returned (.bool true) ∧ Below w.heap.size w w' := by
  have h' : (n : Int) ≤ (2000 : Int) := by omega
  obtain ⟨hpt, nx, hh, hfo, hev⟩ := take_nums c hc more
  have hlen : (numsF c ++ more).length = (numsF c).length + n := by simp [hn]
  have hnl := numsF_len c
  have HCA : Hid (CA (cellOf (numsF c ++ more) hh) = CA c) := CA_congr hev
  have keep : ∀ W, Below w.heap.size w W → IRow W g off more := fun W hW => irow_keep hr (by omega) hW
  go_enter Try.func8, Try.ntmps8
  go_upto_region 5 with (go_at_call 9; refine (alive2_any _).mono ?_; rintro e W1 ⟨rfl, b1⟩)
  have hX1 : Blk W1 w.heap.size (CA c) 31 := (Blk.new w _ _).keep b1
  have hw1 : Below w.heap.size w W1 := ab_trans (ab_alloc (Below.refl _ _) _) b1
  clear b1
  have HPT : Hid (Parts (numsF c ++ more) (pp (hf c) 65) more) := hpt
  have HFO : Hid (foldH (pp (hf c) 65) = some (nx, hh)) := hfo
  have HLN : Hid ((numsF c ++ more).length = (numsF c).length + n) := hlen
  clear hpt hfo hlen hev
  go_wp2_with (first
    | (refine ld_cell rfl rfl hX1 rfl ?_)
    | (go_at_call 18; refine (nums_any c _ hc).mono ?_; rintro e W2 ⟨v, rfl, hown, hv, b2⟩; have hw2 := ab_trans hw1 b2; have hX2 := hX1.keep b2)
    | (at_builtin; refine app_own W1 rfl rfl Try.underlying38 infoInt rfl (by decide) rfl hown (ints more) rfl ?c1 ?c2 ?c3 ?c4 ?c5 ?c6 b2 ?_))
  case c1 => intro e; subst e; rcases Nat.eq_zero_or_pos n with h0 | h0
             · exact h0
             · exact absurd (hp h0) (by simp)
  case c2 => simp [ints, hn]
  case c3 =>
    intro ad had j u hu
    have hj : j < more.length := by have := (List.getElem?_eq_some_iff.1 hu).1; rwa [ints_len] at this
    rw [hp (by omega)] at had
    cases had
    rw [ints_at, List.getElem?_eq_getElem hj] at hu
    cases hu
    rw [Addr.add_mid]
    exact keep _ hw2 j _ (List.getElem?_eq_getElem hj)
  case c4 => exact ints_one _
  case c5 => unfold maxLen; omega
  case c6 => omega
  intro v' W3 hown' hnil b3 _
  clear hnil
  rw [ints_append] at hown'
  obtain ⟨_, q3, g3, cap3, rfl, hp3, hg3, _, hk3, hr3⟩ := own_irow hown'
  obtain rfl := hp3 (by omega)
  have hg3' := hg3 (by omega)
  have hw3 := ab_trans hw1 b3
  have hX3 := hX1.keep b3
  clear hown hown' hv b2 b3 hw2 hX2 hp3 hg3
  go_wp2_with fail
  refine (take_yes g3 0 _ cap3 (numsF c ++ more) (pp (hf c) 65) more nx hh _ HLN.out (by omega) hk3 (by omega) hg3' hr3 HPT.out HFO.out).mono ?_
  rintro e W4 ⟨v4, rfl, hown4, b4⟩
  rw [HCA.out]
  have hw4 := ab_trans hw3 b4
  have hX4 := hX3.keep b4
  go_upto_region 6 with (first
    | (refine al_cell rfl rfl ?_; intro W5 e5 hY5 b5; clear e5; have hw5 := ab_trans hw4 b5; have hX5 := hX4.keep b5; have hown5 := own_keep hown4 b5)
    | (refine st_cell rfl rfl hY5 rfl rfl ?_; intro W6 hY6 C6))
  have hY46 : W4.heap.size ≠ w.heap.size := by have := hX4.lt; omega
  have hX6 := hX5.chg C6 (Ne.symm hY46)
  have hown6 := own_chg2 hown5 hY5 C6 (by decide)
  have hw6 := ab_chg hw5 C6 hw4.size
  rw [hn] at hown6
  obtain ⟨_, q4, g4, cap4, rfl, hp4, hg4, _, hk4, hr4⟩ := own_irow hown6
  clear hX1 hX3 hX4 hX5 hY5 hw1 hw3 hw4 hw5 hown4 hown5 hown6 b4 b5 C6 hg3' hr3 hk3
  go_upto_region 8 with (first
    | (refine val_step rfl _ (ld_oper rfl rfl hY6) ?_)
    | (refine val_step rfl _ (ld_oper rfl rfl hX6) ?_)
    | (refine val_step rfl _ (cneq_oper rfl rfl rfl (eqC_refl _) _) ?_)
    | (go_at_call 17; refine (ints_any q4 g4 0 cap4 n more q g off cap n more _ hn hn (by omega) (by omega) hp4 hp hr4 (keep _ hw6) hg4 (fun h0 => Nat.lt_of_lt_of_le (hg h0) hw6.size)).mono ?_; rintro e W7 ⟨rfl, b7⟩; rw [decide_eq_true (rfl : more = more)]; have hw7 := ab_trans hw6 b7))
  clear hX6 hY6 hp4 hg4 hk4 hr4 hw6 b7 HPT HFO HCA
  rcases take_cases more with hno | ⟨ps, m2, nx2, h2, hP2, hF2⟩
  · have HNO : Hid (NoT more) := hno
    clear hno
    go_wp2_with (first
      | (go_at_call 20; refine (take_none q g off n cap more _ hn (by omega) hk hp (fun h0 => Nat.lt_of_lt_of_le (hg h0) hw7.size) (keep _ hw7) HNO.out).mono ?_; rintro e W8 ⟨rfl, b8⟩; unfold noTake)
      | (refine al_cell rfl rfl ?_; intro W9 e9 hY9 b9; clear e9)
      | (refine st_cell rfl rfl hY9 rfl rfl ?_; intro W10 hY10 C10))
    go_ret
    exact ⟨rfl, ab_chg (ab_trans (ab_trans hw7 b8) b9) C10 (by have := hw7.size; have := b8.size; omega)⟩
  · have h10 : 10 ≤ n := by have := hP2.len; omega
    obtain rfl := hp (by omega)
    have hg0 := hg (by omega)
    have hwf2 := cellOf_wf hP2 hF2 hfit
    have hget2 : Fit (more.getD 2 0) := by
      rw [List.getD_eq_getElem?_getD, List.getElem?_eq_getElem (by omega)]; exact hfit _ (List.getElem_mem _)
    have HB : Hid (numsF (cellOf more h2) ++ m2 = more) := take_back hP2 hF2 hget2.1 hget2.2
    have hnl2 := numsF_len (cellOf more h2)
    have hml := congrArg List.length HB.out
    rw [List.length_append, hn] at hml
    have HP2 : Hid (Parts more ps m2) := hP2
    have HF2 : Hid (foldH ps = some (nx2, h2)) := hF2
    have HHn : Hid ((numsF (cellOf more h2)).length + m2.length = n) := hml
    have hm2 : m2.length ≤ 2000 := by omega
    clear hP2 hF2 hget2 hml
    generalize hgy : cellOf more h2 = y at *
    have HGY : Hid (cellOf more h2 = y) := hgy
    clear hgy
    go_upto_region 9 with (first
      | (go_at_call 20; refine (take_yes g off n cap more ps m2 nx2 h2 _ hn (by omega) hk h10 (Nat.lt_of_lt_of_le hg0 hw7.size) (keep _ hw7) HP2.out HF2.out).mono ?_; rintro e W8 ⟨v8, rfl, hown8, b8⟩; rw [HGY.out]; have hw8 := ab_trans hw7 b8)
      | (refine al_cell rfl rfl ?_; intro W9 e9 hY9 b9; clear e9; have hw9 := ab_trans hw8 b9; have hown9 := own_keep hown8 b9)
      | (refine st_cell rfl rfl hY9 rfl rfl ?_; intro W10 hY10 C10))
    have hown10 := own_chg2 hown9 hY9 C10 (by decide)
    have hw10 := ab_chg hw9 C10 hw8.size
    obtain ⟨_, q8, g8, cap8, rfl, hp8, hg8, hq8, hk8, hr8⟩ := own_irow hown10
    clear hown8 hown9 hown10 hY9 hw8 hw9 b8 b9 C10
    go_wp2_with (first
      | (refine val_step rfl _ (ld_oper rfl rfl hY10) ?_)
      | (go_at_call 18; refine (nums_any y _ hwf2).mono ?_; rintro e W11 ⟨v11, rfl, hown11, hv11, b11⟩; have hw11 := ab_trans hw10 b11; have hr11 := irow_keep hr8 hg8 b11)
      | (at_builtin; refine app_ownG W10 rfl rfl Try.underlying38 infoInt rfl (by decide) rfl hown11 (ints m2) rfl ?c1 ?c2 ?c3 ?c4 ?c5 ?c6 b11 ?_))
    case c1 => exact hq8
    case c2 => simp [ints]
    case c3 =>
      intro ad had j u hu
      have hj : j < m2.length := by have := (List.getElem?_eq_some_iff.1 hu).1; rwa [ints_len] at this
      rw [hp8 (by omega)] at had
      cases had
      rw [ints_at, List.getElem?_eq_getElem hj] at hu
      cases hu
      rw [Addr.add_mid]
      exact hr11 j _ (List.getElem?_eq_getElem hj)
    case c4 => exact ints_one _
    case c5 => unfold maxLen; omega
    case c6 => omega
    intro v' W12 hown' hnil b12 _
    clear hnil
    rw [ints_append, HB.out, HHn.out] at hown'
    obtain ⟨_, q9, g9, cap9, rfl, hp9, hg9, _, hk9, hr9⟩ := own_irow hown'
    have hw12 := ab_trans hw10 b12
    clear hown' hown11 hv11 b11 b12 hw11 hr11 HHn
    go_wp2_with fail
    refine (ints_any q9 g9 0 cap9 n more (some ⟨g, off, none⟩) g off cap n more _ hn hn (by omega) (by omega) hp9 (fun _ => rfl) hr9 (keep _ hw12) hg9 (fun _ => Nat.lt_of_lt_of_le hg0 hw12.size)).mono ?_
    rintro e W13 ⟨rfl, b13⟩
    rw [decide_eq_true (rfl : more = more)]
    go_wp2_with fail
    go_ret
    exact ⟨rfl, ab_trans hw12 b13⟩

theorem cell_fit {c : Nat → Int} (hw : ∀ j, j < 74 → (Lit.int (ck j) (c j)).wf = true) : Wf c := by
  refine ⟨bounds_u64 (hw 2 (by omega)), fun i hi h2 => ?_⟩
  have := hw i hi
  unfold ck at this
  rw [if_neg h2] at this
  exact bounds_i64 this
theorem walk {W : World} (c : Nat → Int) (hw : ∀ j, j < 74 → (Lit.int (ck j) (c j)).wf = true) (q : Option Addr) (g off n cap : Nat) (l : List (Nat → Int)) (hn : l.length = n) (hk : n ≤ cap) (hp : 0 < n → q = some ⟨g, off, none⟩) (hg : ∀ _ : 0 < n, g < W.heap.size)
    (hc : ∀ j c, l[j]? = some c → ∀ i, i < 1 → W.cell? ⟨g, off + j * 1 + i, none⟩ = some (.int .i64 (c i)) ∧ (Lit.int .i64 (c i)).wf = true) :
    Calls Try.prog 8 #[.agg (CA c), .slice q n cap] W fun e w' => e = .returned (.bool true) ∧ Below W.heap.size W w' := by
  by_cases h : n ≤ 2000
  · refine small c q g off n cap (l.map fun x => x 0) W (cell_fit hw) (by simpa using hn) hk h hp hg ?_ ?_
    · intro j x hx
      rw [List.getElem?_map] at hx
      obtain ⟨y, hy, rfl⟩ := Option.map_eq_some_iff.1 hx
      have := (hc j y hy 0 (by omega)).1
      rwa [Nat.mul_one, Nat.add_zero] at this
    · intro x hx
      obtain ⟨y, hy, rfl⟩ := List.mem_map.1 hx
      obtain ⟨j, hj, e⟩ := List.mem_iff_getElem.1 hy
      exact bounds_i64 (hc j y (by rw [List.getElem?_eq_getElem hj, e]) 0 (by omega)).2
  · exact big c q n cap W (by omega)

theorem own : ownKnob Try.prog.godebug = none := by kernel_rfl
theorem laidOut : laidOutB Try.prog = true := by kernel_rfl

set_option maxRecDepth 100000 in
theorem lifted (os : Os) (started : os.Started) (H : Type) (enc : TypeId × Value → H) :
    ReturnsInHanded {} Try.checked os 8 .any (Rows.cellBackSpec.pre6 enc Try.prog Try.f8 Rows.cellBackRow.domain false) (Rows.cellBackSpec.post enc Try.prog Try.f8 false true false false) := by
  refine returnsInHanded_of_change (C := Try.checked) own started (by kernel_rfl) Try.func8
    (ChangeSpec.witness6 (enc := enc) (C := Try.checked) false ⟨#[], #[.agg #[.int .i64 0, .int .i64 0, .int .u64 0, .int .i64 0, .int .i64 0, .int .i64 0, .int .i64 0, .int .i64 0, .int .i64 0, .int .i64 0, .int .i64 0, .int .i64 0, .int .i64 0, .int .i64 0, .int .i64 0, .int .i64 0, .int .i64 0, .int .i64 0, .int .i64 0, .int .i64 0, .int .i64 0, .int .i64 0, .int .i64 0, .int .i64 0, .int .i64 0, .int .i64 0, .int .i64 0, .int .i64 0, .int .i64 0, .int .i64 0, .int .i64 0, .int .i64 0, .int .i64 0, .int .i64 0, .int .i64 0, .int .i64 0, .int .i64 0, .int .i64 0, .int .i64 0, .int .i64 0, .int .i64 0, .int .i64 0, .int .i64 0, .int .i64 0, .int .i64 0, .int .i64 0, .int .i64 0, .int .i64 0, .int .i64 0, .int .i64 0, .int .i64 0, .int .i64 0, .int .i64 0, .int .i64 0, .int .i64 0, .int .i64 0, .int .i64 0, .int .i64 0, .int .i64 0, .int .i64 0, .int .i64 0, .int .i64 0, .int .i64 0, .int .i64 0, .int .i64 0, .int .i64 0, .int .i64 0, .int .i64 0, .int .i64 0, .int .i64 0, .int .i64 0, .int .i64 0, .int .i64 0, .int .i64 0], .slice none 0 0], []⟩ 8 (by kernel_rfl) (by kernel_rfl) (by kernel_rfl) (by kernel_rfl)) ?_
  intro W base args ds gs before hval0 hW hcnd _
  have hval : ∀ (j : Nat) t v, Try.f8.params[j]? = some t → args[j]? = some v → Value.okWide Try.prog W .any base t v := hval0
  have hW' := hW
  obtain ⟨p, q, hA0, hV, rfl, hfz, hnd⟩ := hW
  have hA : DataW.TrodAll enc Try.prog W 0 (fun _ => true) true Try.f8.params.toList args.toList ds p := hA0
  rw [Try.params8] at hA hval
  obtain ⟨v0, vs0, d0, ds0, p0, q0, hargs, rfl, rfl, h0, r0⟩ := trodAll_cons hA
  obtain ⟨v1, vs1, d1, ds1, p1, q1, rfl, rfl, rfl, h1, r1⟩ := trodAll_cons r0
  obtain ⟨rfl, rfl, rfl⟩ := trodAll_nil r1
  obtain rfl : args = #[v0, v1] := by cases args; simp_all
  obtain ⟨rfl, rfl⟩ := trodVars_none hV
  have k0 := h0
  have lt0 : ∀ x ∈ p0, x.block < W.heap.size := by obtain ⟨m, hm⟩ := k0; exact DataW.trod_lt m _ _ _ hm
  have k1 := h1
  have lt1 : ∀ x ∈ p1, x.block < W.heap.size := by obtain ⟨m, hm⟩ := k1; exact DataW.trod_lt m _ _ _ hm
  obtain ⟨c0, rfl, hw0⟩ := open_flat (n := 74) (D := 8) ck Try.underlying31 rfl (by kernel_rfl) (kinds_of (by kernel_rfl)) (hval 0 31 v0 rfl rfl) h0
  obtain ⟨sq1, sg1, so1, sn1, sk1, sl1, rfl, hl1, hk1, hm1, hp1, hg1, hc1⟩ := open_rows (n := 1) (D := 8) (fun _ => .i64) Try.underlying38 (by kernel_rfl) (by omega) (kinds_of (by kernel_rfl)) (hval 1 38 v1 rfl rfl) h1
  clear hA0 hval0
  refine (walk c0 hw0 sq1 sg1 so1 sn1 sk1 sl1 hl1 hk1 hp1 hg1 hc1).mono fun e W' ⟨he, bel⟩ => ?_
  subst he
  exact ⟨_, rfl, _, _, _, [], _, [], hW', trodAll_mk1 (shut_bool Try.underlying4 _), (trodAll_cons_mk (Below.trod laidOut (by kernel_rfl) (of_decide_eq_true (by kernel_rfl)) k0 bel lt0) (trodAll_cons_mk (Below.trod laidOut (by kernel_rfl) (of_decide_eq_true (by kernel_rfl)) k1 bel lt1) trodAll_mk0)), rfl, bel.frame _, fun h => by cases h⟩

theorem over : Rows.cellBackRow.holds Try.pinned (OpenSpec.ofChange Rows.cellBackSpec) :=
  OpenClaim.holds_of_wide 8 Try.f8 rfl rfl rfl rfl rfl rfl rfl ⟨rfl, rfl, rfl, rfl, rfl⟩ rfl rfl rfl rfl rfl (by kernel_rfl) Try.func8 (by kernel_rfl)
    (of_decide_eq_true (by kernel_rfl)) (by unfold Func.isWrapper; first | (rw [if_pos (by decide +kernel)]; kernel_rfl) | (rw [if_neg (by decide +kernel)]; exact ⟨rfl, rfl⟩))
    (fun os started H enc _ => lifted os started H enc)

theorem proved : Rows.CellBackSaid := over
end Go.Proofs.Ytnppdachbfcfkaa.cellBack
namespace Go.Proofs.Ytnppdachbfcfkaa
theorem cellBack_holds : Rows.CellBackSaid := cellBack.proved
#print axioms cellBack_holds
end Go.Proofs.Ytnppdachbfcfkaa
