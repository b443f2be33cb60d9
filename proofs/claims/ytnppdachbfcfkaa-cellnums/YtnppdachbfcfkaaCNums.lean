/-
  What numbers a cell has, and which numbers begin with a cell: estuarylaw02.CellNums returns true for every input; no condition.
-/
import Derived.Test.YtnppdachbfcfkaaCNumsW
import Derived.Test.YtnppdachbfcfkaaFlat
namespace Go.Proofs.Ytnppdachbfcfkaa.cellNums
open Go.ChangeShapes Go.WideShapes Go.ChangeAt Go.RowKit
set_option linter.unusedVariables false

theorem cell_fit {c : Nat → Int} (hw : ∀ j, j < 74 → (Lit.int (ck j) (c j)).wf = true) : Wf c := by
  refine ⟨bounds_u64 (hw 2 (by omega)), fun i hi h2 => ?_⟩
  have := hw i hi
  unfold ck at this
  rw [if_neg h2] at this
  exact bounds_i64 this
theorem walk {W : World} (c : Nat → Int) (hw : ∀ j, j < 74 → (Lit.int (ck j) (c j)).wf = true) (q : Option Addr) (g off n cap : Nat) (l : List (Nat → Int)) (hn : l.length = n) (hk : n ≤ cap) (hp : 0 < n → q = some ⟨g, off, none⟩) (hg : ∀ _ : 0 < n, g < W.heap.size)
    (hc : ∀ j c, l[j]? = some c → ∀ i, i < 1 → W.cell? ⟨g, off + j * 1 + i, none⟩ = some (.int .i64 (c i)) ∧ (Lit.int .i64 (c i)).wf = true) :
    Calls Try.prog 7 #[.agg (CA c), .slice q n cap] W fun e w' => e = .returned (.bool true) ∧ Below W.heap.size W w' := by
  by_cases h : n ≤ 2000
  · refine cnums_small c q g off n cap (l.map fun x => x 0) W (cell_fit hw) (by simpa using hn) hk h hp hg ?_ ?_
    · intro j x hx
      rw [List.getElem?_map] at hx
      obtain ⟨y, hy, rfl⟩ := Option.map_eq_some_iff.1 hx
      have := (hc j y hy 0 (by omega)).1
      rwa [Nat.mul_one, Nat.add_zero] at this
    · intro x hx
      obtain ⟨y, hy, rfl⟩ := List.mem_map.1 hx
      obtain ⟨j, hj, e⟩ := List.mem_iff_getElem.1 hy
      exact bounds_i64 (hc j y (by rw [List.getElem?_eq_getElem hj, e]) 0 (by omega)).2
  · exact cnums_big c q n cap W (by omega)

theorem own : ownKnob Try.prog.godebug = none := by kernel_rfl
theorem laidOut : laidOutB Try.prog = true := by kernel_rfl

set_option maxRecDepth 100000 in
theorem lifted (os : Os) (started : os.Started) (H : Type) (enc : TypeId × Value → H) :
    ReturnsInHanded {} Try.checked os 7 .any (Rows.cellNumsSpec.pre6 enc Try.prog Try.f7 Rows.cellNumsRow.domain false) (Rows.cellNumsSpec.post enc Try.prog Try.f7 false true false false) := by
  refine returnsInHanded_of_change (C := Try.checked) own started (by kernel_rfl) Try.func7
    (ChangeSpec.witness6 (enc := enc) (C := Try.checked) false ⟨#[], #[.agg #[.int .i64 0, .int .i64 0, .int .u64 0, .int .i64 0, .int .i64 0, .int .i64 0, .int .i64 0, .int .i64 0, .int .i64 0, .int .i64 0, .int .i64 0, .int .i64 0, .int .i64 0, .int .i64 0, .int .i64 0, .int .i64 0, .int .i64 0, .int .i64 0, .int .i64 0, .int .i64 0, .int .i64 0, .int .i64 0, .int .i64 0, .int .i64 0, .int .i64 0, .int .i64 0, .int .i64 0, .int .i64 0, .int .i64 0, .int .i64 0, .int .i64 0, .int .i64 0, .int .i64 0, .int .i64 0, .int .i64 0, .int .i64 0, .int .i64 0, .int .i64 0, .int .i64 0, .int .i64 0, .int .i64 0, .int .i64 0, .int .i64 0, .int .i64 0, .int .i64 0, .int .i64 0, .int .i64 0, .int .i64 0, .int .i64 0, .int .i64 0, .int .i64 0, .int .i64 0, .int .i64 0, .int .i64 0, .int .i64 0, .int .i64 0, .int .i64 0, .int .i64 0, .int .i64 0, .int .i64 0, .int .i64 0, .int .i64 0, .int .i64 0, .int .i64 0, .int .i64 0, .int .i64 0, .int .i64 0, .int .i64 0, .int .i64 0, .int .i64 0, .int .i64 0, .int .i64 0, .int .i64 0, .int .i64 0], .slice none 0 0], []⟩ 8 (by kernel_rfl) (by kernel_rfl) (by kernel_rfl) (by kernel_rfl)) ?_
  intro W base args ds gs before hval0 hW hcnd _
  have hval : ∀ (j : Nat) t v, Try.f7.params[j]? = some t → args[j]? = some v → Value.okWide Try.prog W .any base t v := hval0
  have hW' := hW
  obtain ⟨p, q, hA0, hV, rfl, hfz, hnd⟩ := hW
  have hA : DataW.TrodAll enc Try.prog W 0 (fun _ => true) true Try.f7.params.toList args.toList ds p := hA0
  rw [Try.params7] at hA hval
  obtain ⟨v0, vs0, d0, ds0, p0, q0, hargs, rfl, rfl, h0, r0⟩ := trodAll_cons hA
  obtain ⟨v1, vs1, d1, ds1, p1, q1, rfl, rfl, rfl, h1, r1⟩ := trodAll_cons r0
  obtain ⟨rfl, rfl, rfl⟩ := trodAll_nil r1
  obtain rfl : args = #[v0, v1] := by cases args; simp_all
  obtain ⟨rfl, rfl⟩ := trodVars_none hV
  have k0 := h0
  have lt0 : ∀ x ∈ p0, x.block < W.heap.size := by obtain ⟨m, hm⟩ := k0; exact DataW.trod_lt m _ _ _ hm
  have k1 := h1
  have lt1 : ∀ x ∈ p1, x.block < W.heap.size := by obtain ⟨m, hm⟩ := k1; exact DataW.trod_lt m _ _ _ hm
  obtain ⟨c0, rfl, hw0⟩ := open_flat (n := 74) (D := 8) ck Try.underlying31 rfl (by kernel_rfl) (kinds_of (by kernel_rfl)) (hval 0 31 v0 rfl rfl) h0
  obtain ⟨sq1, sg1, so1, sn1, sk1, sl1, rfl, hl1, hk1, hm1, hp1, hg1, hc1⟩ := open_rows (n := 1) (D := 8) (fun _ => .i64) Try.underlying38 (by kernel_rfl) (by omega) (kinds_of (by kernel_rfl)) (hval 1 38 v1 rfl rfl) h1
  clear hA0 hval0
  refine (walk c0 hw0 sq1 sg1 so1 sn1 sk1 sl1 hl1 hk1 hp1 hg1 hc1).mono fun e W' ⟨he, bel⟩ => ?_
  subst he
  exact ⟨_, rfl, _, _, _, [], _, [], hW', trodAll_mk1 (shut_bool Try.underlying4 _), (trodAll_cons_mk (Below.trod laidOut (by kernel_rfl) (of_decide_eq_true (by kernel_rfl)) k0 bel lt0) (trodAll_cons_mk (Below.trod laidOut (by kernel_rfl) (of_decide_eq_true (by kernel_rfl)) k1 bel lt1) trodAll_mk0)), rfl, bel.frame _, fun h => by cases h⟩

theorem over : Rows.cellNumsRow.holds Try.pinned (OpenSpec.ofChange Rows.cellNumsSpec) :=
  OpenClaim.holds_of_wide 7 Try.f7 rfl rfl rfl rfl rfl rfl rfl ⟨rfl, rfl, rfl, rfl, rfl⟩ rfl rfl rfl rfl rfl (by kernel_rfl) Try.func7 (by kernel_rfl)
    (of_decide_eq_true (by kernel_rfl)) (by unfold Func.isWrapper; first | (rw [if_pos (by decide +kernel)]; kernel_rfl) | (rw [if_neg (by decide +kernel)]; exact ⟨rfl, rfl⟩))
    (fun os started H enc _ => lifted os started H enc)

theorem proved : Rows.CellNumsSaid := over
end Go.Proofs.Ytnppdachbfcfkaa.cellNums
namespace Go.Proofs.Ytnppdachbfcfkaa
theorem cellNums_holds : Rows.CellNumsSaid := cellNums.proved
#print axioms cellNums_holds
end Go.Proofs.Ytnppdachbfcfkaa
