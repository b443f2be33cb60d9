/-
  What the cell of a row of samples is: estuarylaw02.CellOf returns true for every input; no condition.
-/
import Derived.Test.YtnppdachbfcfkaaRefOfW
import Derived.Test.YtnppdachbfcfkaaSteps
import Derived.Test.YtnppdachbfcfkaaFlat
namespace Go.Proofs.Ytnppdachbfcfkaa.cellOf
open Go.ChangeShapes Go.WideShapes Go.ChangeAt Go.RowKit
set_option linter.unusedVariables false

theorem big (q : Option Addr) (n cap : Nat) (w : World) (h : 2000 < n) : Calls Try.prog 3 #[.slice q n cap] w fun e w' => e = .returned (.bool true) ∧ Below w.heap.size w w' := by
  have h' : (2000 : Int) < (n : Int) := by omega
  go_enter Try.func3, Try.ntmps3
  go_wp2_with (go_at_call 9; refine (alive2_any _).mono ?_; rintro e W1 ⟨rfl, hb⟩)
  go_ret
  exact ⟨rfl, hb⟩

set_option maxHeartbeats 1000000 in
theorem small (q : Option Addr) (g off n cap : Nat) (l : List (Nat → Int)) (w : World) (hn : l.length = n) (h : n ≤ 2000) (hp : 0 < n → q = some ⟨g, off, none⟩) (hg : 0 < n → g < w.heap.size) (hr : SRow w g off l) :
    Calls Try.prog 3 #[.slice q n cap] w fun e w' => e = .returned (.bool true) ∧ Below w.heap.size w w' := by
  have hwf := srow_wf hr
  have h' : (n : Int) ≤ (2000 : Int) := by omega
  go_enter Try.func3, Try.ntmps3
  go_wp2_with (first
    | (go_at_call 9; refine (alive2_any _).mono ?_; rintro e W1 ⟨rfl, b1⟩)
    | (go_at_call 11; refine (cells_any q g off n cap l _ hn (by omega) hp (srow_keep hr (by omega) b1) (fun h0 => Nat.lt_of_lt_of_le (hg h0) b1.size)).mono ?_; rintro e W2 ⟨v, rfl, hown, hv, b2⟩; obtain ⟨g2, cap2, rfl, hbg, hg2, hl2, hnc, hcm, hcr⟩ := owns_crow hown hv)
    | (go_at_call 10; refine (join_any g2 0 n cap2 (l.map oneS) _ (by simpa using hn) (by omega) hwf hcr hg2).mono ?_; rintro e W3 ⟨rfl, b3⟩; have bw := ab_trans (ab_trans b1 b2) b3)
    | (go_at_call 12; refine (rcof_any q g off n cap l _ hn (by omega) hp (fun h0 => Nat.lt_of_lt_of_le (hg h0) bw.size) (srow_keep hr (by omega) bw) hwf).mono ?_; rintro e W4 ⟨rfl, b4⟩)
    | (refine eql_same rfl rfl rfl rfl (eqC_refl _) ?_)
    | (go_at_call 13; refine (unit_any _).mono ?_; rintro e W5 ⟨rfl, b5⟩)
    | (refine bd_zero rfl rfl ?_))
  go_ret
  exact ⟨rfl, ab_trans (ab_trans bw b4) b5⟩

theorem walk {W : World} (q : Option Addr) (g off n cap : Nat) (l : List (Nat → Int)) (hn : l.length = n) (hk : n ≤ cap) (hp : 0 < n → q = some ⟨g, off, none⟩) (hg : ∀ _ : 0 < n, g < W.heap.size)
    (hc : ∀ j c, l[j]? = some c → ∀ i, i < 6 → W.cell? ⟨g, off + j * 6 + i, none⟩ = some (.int .i64 (c i)) ∧ (Lit.int .i64 (c i)).wf = true) :
    Calls Try.prog 3 #[.slice q n cap] W fun e w' => e = .returned (.bool true) ∧ Below W.heap.size W w' := by
  by_cases h : n ≤ 2000
  · exact small q g off n cap l W hn h hp hg (fun j s hs i hi => ⟨(hc j s hs i hi).1, bounds_i64 (hc j s hs i hi).2⟩)
  · exact big q n cap W (by omega)

theorem own : ownKnob Try.prog.godebug = none := by kernel_rfl
theorem laidOut : laidOutB Try.prog = true := by kernel_rfl

set_option maxRecDepth 100000 in
theorem lifted (os : Os) (started : os.Started) (H : Type) (enc : TypeId × Value → H) :
    ReturnsInHanded {} Try.checked os 3 .any (Rows.cellOfSpec.pre6 enc Try.prog Try.f3 Rows.cellOfRow.domain false) (Rows.cellOfSpec.post enc Try.prog Try.f3 false true false false) := by
  refine returnsInHanded_of_change (C := Try.checked) own started (by kernel_rfl) Try.func3
    (ChangeSpec.witness6 (enc := enc) (C := Try.checked) false ⟨#[], #[.slice none 0 0], []⟩ 8 (by kernel_rfl) (by kernel_rfl) (by kernel_rfl) (by kernel_rfl)) ?_
  intro W base args ds gs before hval0 hW hcnd _
  have hval : ∀ (j : Nat) t v, Try.f3.params[j]? = some t → args[j]? = some v → Value.okWide Try.prog W .any base t v := hval0
  have hW' := hW
  obtain ⟨p, q, hA0, hV, rfl, hfz, hnd⟩ := hW
  have hA : DataW.TrodAll enc Try.prog W 0 (fun _ => true) true Try.f3.params.toList args.toList ds p := hA0
  rw [Try.params3] at hA hval
  obtain ⟨v0, vs0, d0, ds0, p0, q0, hargs, rfl, rfl, h0, r0⟩ := trodAll_cons hA
  obtain ⟨rfl, rfl, rfl⟩ := trodAll_nil r0
  obtain rfl : args = #[v0] := by cases args; simp_all
  obtain ⟨rfl, rfl⟩ := trodVars_none hV
  have k0 := h0
  have lt0 : ∀ x ∈ p0, x.block < W.heap.size := by obtain ⟨m, hm⟩ := k0; exact DataW.trod_lt m _ _ _ hm
  obtain ⟨sq0, sg0, so0, sn0, sk0, sl0, rfl, hl0, hk0, hm0, hp0, hg0, hc0⟩ := open_rows (n := 6) (D := 8) (fun _ => .i64) Try.underlying22 (by kernel_rfl) (by omega) (kinds_of (by kernel_rfl)) (hval 0 22 v0 rfl rfl) h0
  clear hA0 hval0
  refine (walk sq0 sg0 so0 sn0 sk0 sl0 hl0 hk0 hp0 hg0 hc0).mono fun e W' ⟨he, bel⟩ => ?_
  subst he
  exact ⟨_, rfl, _, _, _, [], _, [], hW', trodAll_mk1 (shut_bool Try.underlying4 _), (trodAll_cons_mk (Below.trod laidOut (by kernel_rfl) (of_decide_eq_true (by kernel_rfl)) k0 bel lt0) trodAll_mk0), rfl, bel.frame _, fun h => by cases h⟩

theorem over : Rows.cellOfRow.holds Try.pinned (OpenSpec.ofChange Rows.cellOfSpec) :=
  OpenClaim.holds_of_wide 3 Try.f3 rfl rfl rfl rfl rfl rfl rfl ⟨rfl, rfl, rfl, rfl, rfl⟩ rfl rfl rfl rfl rfl (by kernel_rfl) Try.func3 (by kernel_rfl)
    (of_decide_eq_true (by kernel_rfl)) (by unfold Func.isWrapper; first | (rw [if_pos (by decide +kernel)]; kernel_rfl) | (rw [if_neg (by decide +kernel)]; exact ⟨rfl, rfl⟩))
    (fun os started H enc _ => lifted os started H enc)

theorem proved : Rows.CellOfSaid := over
end Go.Proofs.Ytnppdachbfcfkaa.cellOf
namespace Go.Proofs.Ytnppdachbfcfkaa
theorem cellOf_holds : Rows.CellOfSaid := cellOf.proved
#print axioms cellOf_holds
end Go.Proofs.Ytnppdachbfcfkaa
