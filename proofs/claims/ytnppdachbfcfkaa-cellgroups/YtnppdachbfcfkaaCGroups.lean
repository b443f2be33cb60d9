/-
  The cell of a row of samples depends neither on their order nor on how they are grouped: estuarylaw02.CellGroups returns true for every input; no condition.
-/
import Derived.Test.YtnppdachbfcfkaaCGroupsW
import Derived.Test.YtnppdachbfcfkaaFlat
namespace Go.Proofs.Ytnppdachbfcfkaa.cellGroups
open Go.ChangeShapes Go.WideShapes Go.ChangeAt Go.RowKit
set_option linter.unusedVariables false

theorem walk {W : World} (q : Option Addr) (g off n cap : Nat) (l : List (Nat → Int)) (hn : l.length = n) (hk : n ≤ cap) (hp : 0 < n → q = some ⟨g, off, none⟩) (hg : ∀ _ : 0 < n, g < W.heap.size)
    (hc : ∀ j c, l[j]? = some c → ∀ i, i < 6 → W.cell? ⟨g, off + j * 6 + i, none⟩ = some (.int .i64 (c i)) ∧ (Lit.int .i64 (c i)).wf = true)
    (q2 : Option Addr) (g2 off2 n2 cap2 : Nat) (l2 : List (Nat → Int)) (hn2 : l2.length = n2) (hk2 : n2 ≤ cap2) (hp2 : 0 < n2 → q2 = some ⟨g2, off2, none⟩) (hg2 : ∀ _ : 0 < n2, g2 < W.heap.size)
    (hc2 : ∀ j c, l2[j]? = some c → ∀ i, i < 1 → W.cell? ⟨g2, off2 + j * 1 + i, none⟩ = some (.int .i64 (c i)) ∧ (Lit.int .i64 (c i)).wf = true) :
    Calls Try.prog 4 #[.slice q n cap, .slice q2 n2 cap2] W fun e w' => e = .returned (.bool true) ∧ Below W.heap.size W w' := by
  by_cases h : n ≤ 1000
  · by_cases h2 : n2 ≤ 20
    · exact groups_small q g off n cap l q2 g2 off2 n2 cap2 l2 W hn h hp hg (fun j s hs i hi => ⟨(hc j s hs i hi).1, bounds_i64 (hc j s hs i hi).2⟩) hn2 h2 hp2 hg2
        (fun j c hj => ⟨by have := (hc2 j c hj 0 (by omega)).1; rwa [Nat.mul_one, Nat.add_zero] at this, bounds_i64 (hc2 j c hj 0 (by omega)).2⟩)
    · exact groups_big2 q n cap q2 n2 cap2 W h (by omega)
  · exact groups_big1 q n cap q2 n2 cap2 W (by omega)

theorem own : ownKnob Try.prog.godebug = none := by kernel_rfl
theorem laidOut : laidOutB Try.prog = true := by kernel_rfl

set_option maxRecDepth 100000 in
theorem lifted (os : Os) (started : os.Started) (H : Type) (enc : TypeId × Value → H) :
    ReturnsInHanded {} Try.checked os 4 .any (Rows.cellGroupsSpec.pre6 enc Try.prog Try.f4 Rows.cellGroupsRow.domain false) (Rows.cellGroupsSpec.post enc Try.prog Try.f4 false true false false) := by
  refine returnsInHanded_of_change (C := Try.checked) own started (by kernel_rfl) Try.func4
    (ChangeSpec.witness6 (enc := enc) (C := Try.checked) false ⟨#[], #[.slice none 0 0, .slice none 0 0], []⟩ 8 (by kernel_rfl) (by kernel_rfl) (by kernel_rfl) (by kernel_rfl)) ?_
  intro W base args ds gs before hval0 hW hcnd _
  have hval : ∀ (j : Nat) t v, Try.f4.params[j]? = some t → args[j]? = some v → Value.okWide Try.prog W .any base t v := hval0
  have hW' := hW
  obtain ⟨p, q, hA0, hV, rfl, hfz, hnd⟩ := hW
  have hA : DataW.TrodAll enc Try.prog W 0 (fun _ => true) true Try.f4.params.toList args.toList ds p := hA0
  rw [Try.params4] at hA hval
  obtain ⟨v0, vs0, d0, ds0, p0, q0, hargs, rfl, rfl, h0, r0⟩ := trodAll_cons hA
  obtain ⟨v1, vs1, d1, ds1, p1, q1, rfl, rfl, rfl, h1, r1⟩ := trodAll_cons r0
  obtain ⟨rfl, rfl, rfl⟩ := trodAll_nil r1
  obtain rfl : args = #[v0, v1] := by cases args; simp_all
  obtain ⟨rfl, rfl⟩ := trodVars_none hV
  have k0 := h0
  have lt0 : ∀ x ∈ p0, x.block < W.heap.size := by obtain ⟨m, hm⟩ := k0; exact DataW.trod_lt m _ _ _ hm
  have k1 := h1
  have lt1 : ∀ x ∈ p1, x.block < W.heap.size := by obtain ⟨m, hm⟩ := k1; exact DataW.trod_lt m _ _ _ hm
  obtain ⟨sq0, sg0, so0, sn0, sk0, sl0, rfl, hl0, hk0, hm0, hp0, hg0, hc0⟩ := open_rows (n := 6) (D := 8) (fun _ => .i64) Try.underlying22 (by kernel_rfl) (by omega) (kinds_of (by kernel_rfl)) (hval 0 22 v0 rfl rfl) h0
  obtain ⟨sq1, sg1, so1, sn1, sk1, sl1, rfl, hl1, hk1, hm1, hp1, hg1, hc1⟩ := open_rows (n := 1) (D := 8) (fun _ => .i64) Try.underlying38 (by kernel_rfl) (by omega) (kinds_of (by kernel_rfl)) (hval 1 38 v1 rfl rfl) h1
  clear hA0 hval0
  refine (walk sq0 sg0 so0 sn0 sk0 sl0 hl0 hk0 hp0 hg0 hc0 sq1 sg1 so1 sn1 sk1 sl1 hl1 hk1 hp1 hg1 hc1).mono fun e W' ⟨he, bel⟩ => ?_
  subst he
  exact ⟨_, rfl, _, _, _, [], _, [], hW', trodAll_mk1 (shut_bool Try.underlying4 _), (trodAll_cons_mk (Below.trod laidOut (by kernel_rfl) (of_decide_eq_true (by kernel_rfl)) k0 bel lt0) (trodAll_cons_mk (Below.trod laidOut (by kernel_rfl) (of_decide_eq_true (by kernel_rfl)) k1 bel lt1) trodAll_mk0)), rfl, bel.frame _, fun h => by cases h⟩

theorem over : Rows.cellGroupsRow.holds Try.pinned (OpenSpec.ofChange Rows.cellGroupsSpec) :=
  OpenClaim.holds_of_wide 4 Try.f4 rfl rfl rfl rfl rfl rfl rfl ⟨rfl, rfl, rfl, rfl, rfl⟩ rfl rfl rfl rfl rfl (by kernel_rfl) Try.func4 (by kernel_rfl)
    (of_decide_eq_true (by kernel_rfl)) (by unfold Func.isWrapper; first | (rw [if_pos (by decide +kernel)]; kernel_rfl) | (rw [if_neg (by decide +kernel)]; exact ⟨rfl, rfl⟩))
    (fun os started H enc _ => lifted os started H enc)

theorem proved : Rows.CellGroupsSaid := over
end Go.Proofs.Ytnppdachbfcfkaa.cellGroups
namespace Go.Proofs.Ytnppdachbfcfkaa
theorem cellGroups_holds : Rows.CellGroupsSaid := cellGroups.proved
#print axioms cellGroups_holds
end Go.Proofs.Ytnppdachbfcfkaa
