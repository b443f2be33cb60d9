/-
  What any cells come to: estuarylaw02.CellJoins returns true for every input; no condition.
-/
import Derived.Test.YtnppdachbfcfkaaRJoin
import Derived.Test.YtnppdachbfcfkaaOwn
import Derived.Test.YtnppdachbfcfkaaFlat
namespace Go.Proofs.Ytnppdachbfcfkaa.cellJoins
open Go.ChangeShapes Go.WideShapes Go.ChangeAt Go.RowKit
set_option linter.unusedVariables false

theorem neq_cell (c d : Nat → Int) (w : World) : (binOp .neq 31 (.agg (CA c)) (.agg (CA d))).run Try.prog w = .ok (.bool (!eqC c d)) w := by
  have h := eq_cell c d w
  rw [run_eql_struct] at h
  rw [run_neq_struct]
  generalize (Op.equalIn 10000 31 (.agg (CA c)) (.agg (CA d))).run Try.prog w = R at *
  cases R <;> simp_all [Result.andThen]
theorem neq_oper {o : Oper} {ρ : Operand → Value} {x y : Operand} {t' : TypeId} {c d : Nat → Int} (ho : o.op = .binOp .neq 31 x y t') (hx : ρ x = .agg (CA c)) (hy : ρ y = .agg (CA d)) (he : eqC c d = true) (w : World) :
    (execOp ρ o).run Try.prog w = .ok (.value (.bool false)) w := by
  unfold execOp
  simp only [ho, hx, hy, Sem.run_bind, eq_guard, neq_cell, he, Result.andThen_ok, Sem.run_pure, Bool.not_true]
theorem crow_flat {W : World} {g off : Nat} {l : List (Nat → Int)} (h : CRow W g off l) : ∀ j u, (flatC l)[j]? = some u → W.cell? ⟨g, off + j, none⟩ = some u := by
  intro j u hu
  have hj : j < (flatC l).length := (List.getElem?_eq_some_iff.1 hu).1
  rw [flatC_len] at hj
  have e := Nat.div_add_mod j 74
  have hlt : j / 74 < l.length := by omega
  have hc : l[j / 74]? = some l[j / 74] := List.getElem?_eq_getElem hlt
  have h2 := flatC_at l (j / 74) _ hc (j % 74) (by omega)
  rw [show j / 74 * 74 + j % 74 = j from by omega, hu] at h2
  have := h (j / 74) _ hc (j % 74) u h2.symm
  rwa [show off + j / 74 * 74 + j % 74 = off + j from by omega] at this
theorem flat_one (l : List (Nat → Int)) : ∀ u ∈ flatC l, u.oneCell' = true := by
  intro u hu
  simp only [flatC, List.mem_flatMap] at hu
  obtain ⟨c, _, hu⟩ := hu
  exact (Array.all_eq_true_iff_forall_mem.1 (CA_one c)) u (by simpa using hu)

theorem big (q : Option Addr) (n cap : Nat) (w : World) (h : 300 < n) : Calls Try.prog 5 #[.slice q n cap] w fun e w' => e = .returned (.bool true) ∧ Below w.heap.size w w' := by
  have h' : (300 : Int) < (n : Int) := by omega
  go_enter Try.func5, Try.ntmps5
  go_wp2_with (go_at_call 9; refine (alive2_any _).mono ?_; rintro e W1 ⟨rfl, hb⟩)
  go_ret
  exact ⟨rfl, hb⟩

set_option maxHeartbeats 1000000 in
theorem small (q : Option Addr) (g off n cap : Nat) (l : List (Nat → Int)) (w : World) (hn : l.length = n) (h : n ≤ 300) (hp : 0 < n → q = some ⟨g, off, none⟩) (hg : 0 < n → g < w.heap.size) (hr : CRow w g off l) (hwf : ∀ c ∈ l, Wf c) :
    Calls Try.prog 5 #[.slice q n cap] w fun e w' => e = .returned (.bool true) ∧ Below w.heap.size w w' := by
  have h' : (n : Int) ≤ (300 : Int) := by omega
  have keep : ∀ W, Below w.heap.size w W → CRow W g off l := fun W hW j c hc i v hv => by
    rw [hW.cell (p := ⟨g, _, none⟩) (hg (by have := (List.getElem?_eq_some_iff.1 hc).1; omega))]; exact hr j c hc i v hv
  go_enter Try.func5, Try.ntmps5
  go_upto_region 5 with (go_at_call 9; refine (alive2_any _).mono ?_; rintro e W1 ⟨rfl, b1⟩)
  have hown0 := own_empty W1 W1 31 74 (Nat.le_refl _)
  have hb0 : Below W1.heap.size W1 (W1.alloc (.cells #[] 31)) := ab_alloc (Below.refl _ _) _
  go_upto_region 6 with (at_builtin; refine app_own W1 rfl rfl Try.underlying33 infoCell (CA_size _) (by decide) rfl hown0 (flatC l) rfl ?c1 ?c2 ?c3 ?c4 ?c5 ?c6 hb0 ?_)
  case c1 => intro e; subst e; rcases Nat.eq_zero_or_pos n with h0 | h0
             · exact h0
             · exact absurd (hp h0) (by simp)
  case c2 => rw [flatC_len, hn]
  case c3 =>
    intro ad had j u hu
    rcases Nat.eq_zero_or_pos n with h0 | h0
    · have : l = [] := List.eq_nil_of_length_eq_zero (by omega)
      subst this; simp [flatC] at hu
    · rw [hp h0] at had
      cases had
      rw [Addr.add_mid]
      exact crow_flat (keep _ (ab_trans b1 hb0)) j u hu
  case c4 => exact flat_one l
  case c5 => unfold maxLen; omega
  case c6 => omega
  intro v' W2 hown hnil b2 _
  have hv : v' ≠ .slice none 0 0 := hnil
  obtain ⟨gs, cap2, rfl, hbg, hgs, hl2, hnc, hcm, hcr⟩ := owns_crow hown hv
  have hw2 := ab_trans b1 b2
  clear hown hnil hv b2 b1 hown0 hb0 hbg
  go_upto_region 8 with (first
    | (go_at_call 10; refine (join_any gs 0 n cap2 l _ hn (by omega) hwf hcr hgs).mono ?_; rintro e W3 ⟨rfl, b3⟩; have hw3 := ab_trans hw2 b3)
    | (go_at_call 14; refine (rjoin_any q g off n cap l _ hn (by omega) hp (fun h0 => Nat.lt_of_lt_of_le (hg h0) hw3.size) (keep _ hw3) hwf).mono ?_; rintro e W4 ⟨rfl, b4⟩)
    | (refine val_step rfl _ (neq_oper rfl rfl rfl (eqC_refl _) _) ?_))
  have hw4 := ab_trans hw3 b4
  have hcr4 : CRow W4 gs 0 l := crow_keep (crow_keep hcr hgs b3) (Nat.lt_of_lt_of_le hgs b3.size) b4
  clear hcr hgs b3 b4 hw2 hw3
  go_wp2_with fail
  go_loopw [20] (fun i wr => ∃ k : Nat, k ≤ n ∧ i = .int .i64 (k : Int) ∧ CRow wr gs 0 l ∧ Below w.heap.size w wr) (fun i _ => n - (intOf i).toNat)
  case atStart => exact ⟨0, by omega, rfl, hcr4, hw4⟩
  case round =>
    clear hcr4 hw4
    obtain ⟨k, hk, rfl, hc, hw⟩ := hrel
    by_cases c : k = n
    · subst c
      clear keep hr hwf
      go_wp2_with fail
      go_ret
      exact ⟨rfl, hw⟩
    · obtain ⟨x, hx⟩ : ∃ x, l[k]? = some x := ⟨l[k], List.getElem?_eq_getElem (by omega)⟩
      obtain rfl := hp (by omega)
      have hki : (k : Int) < (n : Int) := by omega
      have r1 := hc k x hx
      have r2 := keep wr hw k x hx
      rw [Nat.zero_add] at r1
      clear keep hr hwf hx
      go_upto_region 11 with fail
      refine wp_region_held_drew (S := fun w' => w'.rangeAt gs (k * 74) (CA x).toList ∧ w'.rangeAt g (off + k * 74) (CA x).toList ∧ CRow w' gs 0 l ∧ Below w.heap.size w w') (by kernel_rfl) ⟨r1, r2, hc, ab_drew hw⟩ (fun hHeld => ?_)
      refine takeH (i := 0) (some 23) rfl rfl (by kernel_rfl) (by kernel_rfl) (by kernel_rfl) (fun _ _ _ h => h) (by rfl) (fun w hSw => by (try dsimp only at hSw); go_simp; try rfl) hHeld ?_
      go_frame
      refine takeH (i := 1) (some 24) rfl rfl (by kernel_rfl) (by kernel_rfl) (by kernel_rfl) (fun _ _ _ h => h) (by rfl) (fun w hSw => by (try dsimp only at hSw); go_simp; try rfl) hHeld ?_
      go_frame
      refine takeH (i := 2) (some 25) rfl rfl (by kernel_rfl) (by kernel_rfl) (by kernel_rfl) (fun _ _ _ h => h) (by rfl) (fun w hSw => by (try dsimp only at hSw); go_simp; try rfl) hHeld ?_
      go_frame
      refine takeH (i := 3) (some 26) rfl rfl (by kernel_rfl) (by kernel_rfl) (by kernel_rfl) (fun _ _ _ h => h) (by rfl) (fun w hSw => by (try dsimp only at hSw); exact ldm_oper rfl rfl hSw.1) hHeld ?_
      go_frame
      refine takeH (i := 4) (some 27) rfl rfl (by kernel_rfl) (by kernel_rfl) (by kernel_rfl) (fun _ _ _ h => h) (by rfl) (fun w hSw => by (try dsimp only at hSw); go_simp; try rfl) hHeld ?_
      go_frame
      refine takeH (i := 5) (some 28) rfl rfl (by kernel_rfl) (by kernel_rfl) (by kernel_rfl) (fun _ _ _ h => h) (by rfl) (fun w hSw => by (try dsimp only at hSw); go_simp; try rfl) hHeld ?_
      go_frame
      refine takeH (i := 6) (some 29) rfl rfl (by kernel_rfl) (by kernel_rfl) (by kernel_rfl) (fun _ _ _ h => h) (by rfl) (fun w hSw => by (try dsimp only at hSw); go_simp; try rfl) hHeld ?_
      go_frame
      refine takeH (i := 7) (some 30) rfl rfl (by kernel_rfl) (by kernel_rfl) (by kernel_rfl) (fun _ _ _ h => h) (by rfl) (fun w hSw => by (try dsimp only at hSw); exact ldm_oper rfl rfl hSw.2.1) hHeld ?_
      go_frame
      refine takeH (i := 8) (some 31) rfl rfl (by kernel_rfl) (by kernel_rfl) (by kernel_rfl) (fun _ _ _ h => h) (by rfl) (fun w hSw => by (try dsimp only at hSw); exact neq_oper rfl rfl rfl (eqC_refl _) w) hHeld ?_
      go_frame
      refine wpAnyH_done (by kernel_rfl) ?_ _
      go_wp2_with fail
      go_roundw
      case rel => exact ⟨k + 1, by omega, by go_num, hHeld.2.2.1, hHeld.2.2.2⟩
      case measure => simp [intOf]; omega

theorem ck_fit {W : World} {g off : Nat} {l : List (Nat → Int)} (hc : ∀ j c, l[j]? = some c → ∀ i, i < 74 → W.cell? ⟨g, off + j * 74 + i, none⟩ = some (.int (ck i) (c i)) ∧ (Lit.int (ck i) (c i)).wf = true) : CRow W g off l ∧ ∀ c ∈ l, Wf c := by
  refine ⟨fun j c hj i v hv => ?_, fun c hcl => ?_⟩
  · have hi : i < 74 := by have := (List.getElem?_eq_some_iff.1 hv).1; simpa [CA_size] using this
    rw [(hc j c hj i hi).1, ← CA_at c i hi]; simpa using hv
  · obtain ⟨j, hj, e⟩ := List.mem_iff_getElem.1 hcl
    have f := fun i hi => (hc j c (by rw [List.getElem?_eq_getElem hj, e]) i hi).2
    refine ⟨bounds_u64 (f 2 (by omega)), fun i hi h2 => ?_⟩
    have := f i hi
    unfold ck at this
    rw [if_neg h2] at this
    exact bounds_i64 this
theorem walk {W : World} (q : Option Addr) (g off n cap : Nat) (l : List (Nat → Int)) (hn : l.length = n) (hk : n ≤ cap) (hp : 0 < n → q = some ⟨g, off, none⟩) (hg : ∀ _ : 0 < n, g < W.heap.size)
    (hc : ∀ j c, l[j]? = some c → ∀ i, i < 74 → W.cell? ⟨g, off + j * 74 + i, none⟩ = some (.int (ck i) (c i)) ∧ (Lit.int (ck i) (c i)).wf = true) :
    Calls Try.prog 5 #[.slice q n cap] W fun e w' => e = .returned (.bool true) ∧ Below W.heap.size W w' := by
  by_cases h : n ≤ 300
  · exact small q g off n cap l W hn h hp hg (ck_fit hc).1 (ck_fit hc).2
  · exact big q n cap W (by omega)

theorem own : ownKnob Try.prog.godebug = none := by kernel_rfl
theorem laidOut : laidOutB Try.prog = true := by kernel_rfl

set_option maxRecDepth 100000 in
theorem lifted (os : Os) (started : os.Started) (H : Type) (enc : TypeId × Value → H) :
    ReturnsInHanded {} Try.checked os 5 .any (Rows.cellJoinsSpec.pre6 enc Try.prog Try.f5 Rows.cellJoinsRow.domain false) (Rows.cellJoinsSpec.post enc Try.prog Try.f5 false true false false) := by
  refine returnsInHanded_of_change (C := Try.checked) own started (by kernel_rfl) Try.func5
    (ChangeSpec.witness6 (enc := enc) (C := Try.checked) false ⟨#[], #[.slice none 0 0], []⟩ 8 (by kernel_rfl) (by kernel_rfl) (by kernel_rfl) (by kernel_rfl)) ?_
  intro W base args ds gs before hval0 hW hcnd _
  have hval : ∀ (j : Nat) t v, Try.f5.params[j]? = some t → args[j]? = some v → Value.okWide Try.prog W .any base t v := hval0
  have hW' := hW
  obtain ⟨p, q, hA0, hV, rfl, hfz, hnd⟩ := hW
  have hA : DataW.TrodAll enc Try.prog W 0 (fun _ => true) true Try.f5.params.toList args.toList ds p := hA0
  rw [Try.params5] at hA hval
  obtain ⟨v0, vs0, d0, ds0, p0, q0, hargs, rfl, rfl, h0, r0⟩ := trodAll_cons hA
  obtain ⟨rfl, rfl, rfl⟩ := trodAll_nil r0
  obtain rfl : args = #[v0] := by cases args; simp_all
  obtain ⟨rfl, rfl⟩ := trodVars_none hV
  have k0 := h0
  have lt0 : ∀ x ∈ p0, x.block < W.heap.size := by obtain ⟨m, hm⟩ := k0; exact DataW.trod_lt m _ _ _ hm
  obtain ⟨sq0, sg0, so0, sn0, sk0, sl0, rfl, hl0, hk0, hm0, hp0, hg0, hc0⟩ := open_rows (n := 74) (D := 8) ck Try.underlying33 (by kernel_rfl) (by omega) (kinds_of (by kernel_rfl)) (hval 0 33 v0 rfl rfl) h0
  clear hA0 hval0
  refine (walk sq0 sg0 so0 sn0 sk0 sl0 hl0 hk0 hp0 hg0 hc0).mono fun e W' ⟨he, bel⟩ => ?_
  subst he
  exact ⟨_, rfl, _, _, _, [], _, [], hW', trodAll_mk1 (shut_bool Try.underlying4 _), (trodAll_cons_mk (Below.trod laidOut (by kernel_rfl) (of_decide_eq_true (by kernel_rfl)) k0 bel lt0) trodAll_mk0), rfl, bel.frame _, fun h => by cases h⟩

theorem over : Rows.cellJoinsRow.holds Try.pinned (OpenSpec.ofChange Rows.cellJoinsSpec) :=
  OpenClaim.holds_of_wide 5 Try.f5 rfl rfl rfl rfl rfl rfl rfl ⟨rfl, rfl, rfl, rfl, rfl⟩ rfl rfl rfl rfl rfl (by kernel_rfl) Try.func5 (by kernel_rfl)
    (of_decide_eq_true (by kernel_rfl)) (by unfold Func.isWrapper; first | (rw [if_pos (by decide +kernel)]; kernel_rfl) | (rw [if_neg (by decide +kernel)]; exact ⟨rfl, rfl⟩))
    (fun os started H enc _ => lifted os started H enc)

theorem proved : Rows.CellJoinsSaid := over
end Go.Proofs.Ytnppdachbfcfkaa.cellJoins
namespace Go.Proofs.Ytnppdachbfcfkaa
theorem cellJoins_holds : Rows.CellJoinsSaid := cellJoins.proved
#print axioms cellJoins_holds
end Go.Proofs.Ytnppdachbfcfkaa
