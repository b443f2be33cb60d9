/-
  What is covered stays covered when places rise, and the least places cover nothing: estuarylaw03.PlaceCovers returns true for every input; no condition.
-/
import Derived.Test.YtffgndmcamedaaaPCoversW
import Derived.Test.YtffgndmcamedaaaMixed
import Derived.ProofKit
import Derived.OpenShut
import Derived.ChangeOld
import Derived.Below
import Derived.Lib.SmallJoins
namespace Go.Proofs.Ytffgndmcamedaaa.placeCovers
open Go.ChangeShapes Go.WideShapes Go.ChangeAt Go.RowKit Go.Joins
set_option linter.unusedVariables false

theorem walk {W : World} (s0 : Int) (h0 : -9223372036854775808 ≤ s0 ∧ s0 ≤ 9223372036854775807) (s1 : Int) (h1 : -9223372036854775808 ≤ s1 ∧ s1 ≤ 9223372036854775807) (t : Int) (ht : -9223372036854775808 ≤ t ∧ t ≤ 9223372036854775807) (key : Int) (hk : -9223372036854775808 ≤ key ∧ key ≤ 9223372036854775807) (s4 : Int) (h4 : -9223372036854775808 ≤ s4 ∧ s4 ≤ 9223372036854775807)
    (q : Option Addr) (g off n cap : Nat) (l : List (Nat → Int)) (hn : l.length = n) (hc : n ≤ cap) (hp : 0 < n → q = some ⟨g, off, none⟩) (hg : ∀ _ : 0 < n, g < W.heap.size)
    (hr : ∀ j c, l[j]? = some c → ∀ i, i < 1 → W.cell? ⟨g, off + j * 1 + i, none⟩ = some (.int .i64 (c i)) ∧ (Lit.int .i64 (c i)).wf = true)
    (sh : Int) (hsh : -9223372036854775808 ≤ sh ∧ sh ≤ 9223372036854775807)
    (q2 : Option Addr) (g2 off2 n2 cap2 : Nat) (l2 : List (Nat → Int)) (hn2 : l2.length = n2) (hc2 : n2 ≤ cap2) (hp2 : 0 < n2 → q2 = some ⟨g2, off2, none⟩) (hg2 : ∀ _ : 0 < n2, g2 < W.heap.size)
    (hr2 : ∀ j c, l2[j]? = some c → ∀ i, i < 2 → W.cell? ⟨g2, off2 + j * 2 + i, none⟩ = some (.int .i64 (c i)) ∧ (Lit.int .i64 (c i)).wf = true)
    (q3 : Option Addr) (g3 off3 n3 cap3 : Nat) (l3 : List (Nat → Int)) (hn3 : l3.length = n3) (hc3 : n3 ≤ cap3) (hp3 : 0 < n3 → q3 = some ⟨g3, off3, none⟩) (hg3 : ∀ _ : 0 < n3, g3 < W.heap.size)
    (hr3 : ∀ j c, l3[j]? = some c → ∀ i, i < 1 → W.cell? ⟨g3, off3 + j * 1 + i, none⟩ = some (.int .i64 (c i)) ∧ (Lit.int .i64 (c i)).wf = true) :
    Calls Try.prog 8 #[.agg #[.int .i64 s0, .int .i64 s1, .int .i64 t, .int .i64 key, .int .i64 s4, .slice q n cap, .int .i64 sh, .slice q2 n2 cap2], .slice q3 n3 cap3] W fun e w' => e = .returned (.bool true) ∧ Below W.heap.size W w' := by
  have irow : ∀ (g off : Nat) (l : List (Nat → Int)), (∀ j c, l[j]? = some c → ∀ i, i < 1 → W.cell? ⟨g, off + j * 1 + i, none⟩ = some (.int .i64 (c i)) ∧ (Lit.int .i64 (c i)).wf = true) → IRow W g off (l.map fun c => c 0) := by
    intro g off l hr j x hx
    rw [List.getElem?_map] at hx
    obtain ⟨y, hy, rfl⟩ := Option.map_eq_some_iff.1 hx
    have := (hr j y hy 0 (by omega)).1
    rwa [Nat.mul_one, Nat.add_zero] at this
  have b1 : ∀ (j : Nat) (r : Int), (l.map fun c => c 0)[j]? = some r → r ≤ 9223372036854775807 := by
    intro j x hx
    rw [List.getElem?_map] at hx
    obtain ⟨y, hy, rfl⟩ := Option.map_eq_some_iff.1 hx
    exact (bounds_i64 (hr j y hy 0 (by omega)).2).2
  have r2 : Row2 W g2 off2 (l2.map fun c => (c 0, c 1)) := by
    intro j x hx
    rw [List.getElem?_map] at hx
    obtain ⟨y, hy, rfl⟩ := Option.map_eq_some_iff.1 hx
    have e0 := (hr2 j y hy 0 (by omega)).1
    have e1 := (hr2 j y hy 1 (by omega)).1
    rw [Nat.add_zero] at e0
    exact ⟨e0, e1⟩
  have f2 : Fit2 (l2.map fun c => (c 0, c 1)) := by
    intro j x hx
    rw [List.getElem?_map] at hx
    obtain ⟨y, hy, rfl⟩ := Option.map_eq_some_iff.1 hx
    exact ⟨bounds_i64 (hr2 j y hy 0 (by omega)).2, bounds_i64 (hr2 j y hy 1 (by omega)).2⟩
  have z2 : q2 = none → n2 = 0 := fun h => by
    apply Classical.byContradiction
    intro h'
    have := hp2 (by omega)
    rw [h] at this; cases this
  by_cases h : n ≤ 100 ∧ n2 ≤ 500 ∧ n3 ≤ 500
  · exact covers_small s0 s1 t key s4 q g off n cap (l.map fun c => c 0) sh q2 g2 off2 n2 cap2 (l2.map fun c => (c 0, c 1)) q3 g3 off3 n3 cap3 (l3.map fun c => c 0) W (by simpa using hn) h.1 hp hg (irow g off l hr) ht.1 ht.2 hk.1 hk.2 hsh.2 b1 (by simpa using hn2) h.2.1 hp2 hg2 r2 z2 f2
      (by simpa using hn3) h.2.2 hp3 hg3 (irow g3 off3 l3 hr3)
  · exact covers_big s0 s1 t key s4 q n cap sh q2 n2 cap2 q3 n3 cap3 W (by omega)

theorem own : ownKnob Try.prog.godebug = none := by kernel_rfl
theorem laidOut : laidOutB Try.prog = true := by kernel_rfl

set_option maxRecDepth 100000 in
theorem lifted (os : Os) (started : os.Started) (H : Type) (enc : TypeId × Value → H) :
    ReturnsInHanded {} Try.checked os 8 .any (Rows.placeCoversSpec.pre6 enc Try.prog Try.f8 Rows.placeCoversRow.domain false) (Rows.placeCoversSpec.post enc Try.prog Try.f8 false true false false) := by
  refine returnsInHanded_of_change (C := Try.checked) own started (by kernel_rfl) Try.func8
    (ChangeSpec.witness6 (enc := enc) (C := Try.checked) false ⟨#[], #[.agg #[.int .i64 0, .int .i64 0, .int .i64 0, .int .i64 0, .int .i64 0, .slice none 0 0, .int .i64 0, .slice none 0 0], .slice none 0 0], []⟩ 8 (by kernel_rfl) (by kernel_rfl) (by kernel_rfl) (by kernel_rfl)) ?_
  intro W base args ds gs before hval0 hW hcnd _
  have hval : ∀ (j : Nat) t v, Try.f8.params[j]? = some t → args[j]? = some v → Value.okWide Try.prog W .any base t v := hval0
  have hW' := hW
  obtain ⟨p, q, hA0, hV, rfl, hfz, hnd⟩ := hW
  have hA : DataW.TrodAll enc Try.prog W 0 (fun _ => true) true Try.f8.params.toList args.toList ds p := hA0
  rw [Try.params8] at hA hval
  obtain ⟨v0, vs0, d0, ds0, p0, q0, hargs, rfl, rfl, h0, r0⟩ := trodAll_cons hA
  obtain ⟨v1, vs1, d1, ds1, p1, q1, rfl, rfl, rfl, h1, r1⟩ := trodAll_cons r0
  obtain ⟨rfl, rfl, rfl⟩ := trodAll_nil r1
  obtain rfl : args = #[v0, v1] := by cases args; simp_all
  obtain ⟨rfl, rfl⟩ := trodVars_none hV
  have k0 := h0
  have lt0 : ∀ x ∈ p0, x.block < W.heap.size := by obtain ⟨m, hm⟩ := k0; exact DataW.trod_lt m _ _ _ hm
  have k1 := h1
  have lt1 : ∀ x ∈ p1, x.block < W.heap.size := by obtain ⟨m, hm⟩ := k1; exact DataW.trod_lt m _ _ _ hm
  obtain ⟨cs0, rfl, hz0, fm0, hx0⟩ := open_struct (n := 8) Try.underlying35 (by kernel_rfl) (hval 0 35 v0 rfl rfl) h0
  obtain ⟨e0_0, e0_1, e0_2, e0_3, e0_4, e0_5, e0_6, e0_7, rfl⟩ : ∃ e0_0 e0_1 e0_2 e0_3 e0_4 e0_5 e0_6 e0_7, cs0 = #[e0_0, e0_1, e0_2, e0_3, e0_4, e0_5, e0_6, e0_7] := by
    refine ⟨cs0[0], cs0[1], cs0[2], cs0[3], cs0[4], cs0[5], cs0[6], cs0[7], ?_⟩
    apply Array.ext
    · simpa using hz0
    · intro i h1 h2
      have : i = 0 ∨ i = 1 ∨ i = 2 ∨ i = 3 ∨ i = 4 ∨ i = 5 ∨ i = 6 ∨ i = 7 := by omega
      rcases this with rfl | rfl | rfl | rfl | rfl | rfl | rfl | rfl <;> rfl
  obtain ⟨fy0_0, fg0_0⟩ := hx0 0 _ rfl
  obtain ⟨a0_0, ea0_0, w0_0⟩ := flat_cell 8 _ 31 _ _ 0 .i64 fg0_0 (by kernel_rfl)
  obtain rfl : e0_0 = .int .i64 a0_0 := by have h9 : ([e0_0, e0_1, e0_2, e0_3, e0_4] : List Value)[0]? = some (Value.int .i64 a0_0) := ea0_0; simpa using h9
  obtain ⟨a0_1, ea0_1, w0_1⟩ := flat_cell 8 _ 31 _ _ 1 .i64 fg0_0 (by kernel_rfl)
  obtain rfl : e0_1 = .int .i64 a0_1 := by have h9 : ([.int .i64 a0_0, e0_1, e0_2, e0_3, e0_4] : List Value)[1]? = some (Value.int .i64 a0_1) := ea0_1; simpa using h9
  obtain ⟨a0_2, ea0_2, w0_2⟩ := flat_cell 8 _ 31 _ _ 2 .i64 fg0_0 (by kernel_rfl)
  obtain rfl : e0_2 = .int .i64 a0_2 := by have h9 : ([.int .i64 a0_0, .int .i64 a0_1, e0_2, e0_3, e0_4] : List Value)[2]? = some (Value.int .i64 a0_2) := ea0_2; simpa using h9
  obtain ⟨a0_3, ea0_3, w0_3⟩ := flat_cell 8 _ 31 _ _ 3 .i64 fg0_0 (by kernel_rfl)
  obtain rfl : e0_3 = .int .i64 a0_3 := by have h9 : ([.int .i64 a0_0, .int .i64 a0_1, .int .i64 a0_2, e0_3, e0_4] : List Value)[3]? = some (Value.int .i64 a0_3) := ea0_3; simpa using h9
  obtain ⟨a0_4, ea0_4, w0_4⟩ := flat_cell 8 _ 31 _ _ 4 .i64 fg0_0 (by kernel_rfl)
  obtain rfl : e0_4 = .int .i64 a0_4 := by have h9 : ([.int .i64 a0_0, .int .i64 a0_1, .int .i64 a0_2, .int .i64 a0_3, e0_4] : List Value)[4]? = some (Value.int .i64 a0_4) := ea0_4; simpa using h9
  obtain ⟨fy0_1, fg0_1⟩ := hx0 1 _ rfl
  obtain ⟨sq0_5, sg0_5, so0_5, sn0_5, sk0_5, sl0_5, ee0_5, hl0_5, hk0_5, hm0_5, hp0_5, hg0_5, hc0_5⟩ := rows_of (n := 1) (D := 8) (fun _ => .i64) Try.underlying32 (by kernel_rfl) (by omega) (kinds_of (by kernel_rfl)) fg0_1
  obtain rfl : e0_5 = .slice sq0_5 sn0_5 sk0_5 := by have h9 : [e0_5] = [Value.slice sq0_5 sn0_5 sk0_5] := ee0_5; simpa using h9
  obtain ⟨fy0_2, fg0_2⟩ := hx0 2 _ rfl
  obtain ⟨a0_6, ea0_6, w0_6⟩ := flat_cell 8 _ 3 _ _ 0 .i64 fg0_2 (by kernel_rfl)
  obtain rfl : e0_6 = .int .i64 a0_6 := by have h9 : ([e0_6] : List Value)[0]? = some (Value.int .i64 a0_6) := ea0_6; simpa using h9
  obtain ⟨fy0_3, fg0_3⟩ := hx0 3 _ rfl
  obtain ⟨sq0_7, sg0_7, so0_7, sn0_7, sk0_7, sl0_7, ee0_7, hl0_7, hk0_7, hm0_7, hp0_7, hg0_7, hc0_7⟩ := rows_of (n := 2) (D := 8) (fun _ => .i64) Try.underlying33 (by kernel_rfl) (by omega) (kinds_of (by kernel_rfl)) fg0_3
  obtain rfl : e0_7 = .slice sq0_7 sn0_7 sk0_7 := by have h9 : [e0_7] = [Value.slice sq0_7 sn0_7 sk0_7] := ee0_7; simpa using h9
  obtain ⟨sq1, sg1, so1, sn1, sk1, sl1, rfl, hl1, hk1, hm1, hp1, hg1, hc1⟩ := open_rows (n := 1) (D := 8) (fun _ => .i64) Try.underlying32 (by kernel_rfl) (by omega) (kinds_of (by kernel_rfl)) (hval 1 32 v1 rfl rfl) h1
  clear hA0 hval0
  refine (walk a0_0 (bounds_i64 w0_0) a0_1 (bounds_i64 w0_1) a0_2 (bounds_i64 w0_2) a0_3 (bounds_i64 w0_3) a0_4 (bounds_i64 w0_4) sq0_5 sg0_5 so0_5 sn0_5 sk0_5 sl0_5 hl0_5 hk0_5 hp0_5 hg0_5 hc0_5 a0_6 (bounds_i64 w0_6) sq0_7 sg0_7 so0_7 sn0_7 sk0_7 sl0_7 hl0_7 hk0_7 hp0_7 hg0_7 hc0_7 sq1 sg1 so1 sn1 sk1 sl1 hl1 hk1 hp1 hg1 hc1).mono fun e W' ⟨he, bel⟩ => ?_
  subst he
  exact ⟨_, rfl, _, _, _, [], _, [], hW', trodAll_mk1 (shut_bool Try.underlying4 _), (trodAll_cons_mk (Below.trod laidOut (by kernel_rfl) (of_decide_eq_true (by kernel_rfl)) k0 bel lt0) (trodAll_cons_mk (Below.trod laidOut (by kernel_rfl) (of_decide_eq_true (by kernel_rfl)) k1 bel lt1) trodAll_mk0)), rfl, bel.frame _, fun h => by cases h⟩

theorem over : Rows.placeCoversRow.holds Try.pinned (OpenSpec.ofChange Rows.placeCoversSpec) :=
  OpenClaim.holds_of_wide 8 Try.f8 rfl rfl rfl rfl rfl rfl rfl ⟨rfl, rfl, rfl, rfl, rfl⟩ rfl rfl rfl rfl rfl (by kernel_rfl) Try.func8 (by kernel_rfl)
    (of_decide_eq_true (by kernel_rfl)) (by unfold Func.isWrapper; first | (rw [if_pos (by decide +kernel)]; kernel_rfl) | (rw [if_neg (by decide +kernel)]; exact ⟨rfl, rfl⟩))
    (fun os started H enc _ => lifted os started H enc)

theorem proved : Rows.PlaceCoversSaid := over
end Go.Proofs.Ytffgndmcamedaaa.placeCovers
namespace Go.Proofs.Ytffgndmcamedaaa
theorem placeCovers_holds : Rows.PlaceCoversSaid := placeCovers.proved
#print axioms placeCovers_holds
end Go.Proofs.Ytffgndmcamedaaa
