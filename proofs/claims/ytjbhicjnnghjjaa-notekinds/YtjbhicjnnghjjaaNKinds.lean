/-
  How many numbers notes of each kind have: estuarylaw05.NoteKinds returns true for every input; no condition.
-/
import Derived.Test.YtjbhicjnnghjjaaPk15
import Derived.Deep.CutRange
import Derived.Deep.CutBlock
import Derived.ProofKit
import Derived.OpenShut
import Derived.ChangeOld
import Derived.Below
import Derived.Lib.SmallJoins
namespace Go.Proofs.Ytjbhicjnnghjjaa.noteKinds
open Go.ChangeShapes Go.WideShapes Go.ChangeAt Go.RowKit Go.Joins
set_option linter.unusedVariables false

theorem made_ints (n : Nat) : (madeCells (Value.int .i64 0).cells (n * 1)).toList = ints (List.replicate n 0) := by
  apply List.ext_getElem?
  intro j
  by_cases hj : j < n
  · simp [madeCells, hj, Nat.mod_one, ints, Value.cells]
  · simp [madeCells, hj, ints]
section
variable {ops : Array Oper} {rest : List Oper} {o : Oper} {a : Act} {w : World} {Q : Exit → Act → World → Prop}
theorem mk_i (hw : Region.wanted o (yielded ops a.tmps) = true) {x y : Operand} (ho : o.op = .makeSlice 22 x y) {c : Nat} (hx : a.eval x = .int .i64 (c : Int)) (hy : a.eval y = .int .i64 (c : Int)) (hc : c ≤ 1000000)
    (h : ∀ W', W'.ownsRow w.heap.size 3 1 (.slice (some ⟨w.heap.size, 0, none⟩) c c) c (ints (List.replicate c 0)) → Below w.heap.size w W' → wpList Try.prog ops Q rest (a.put o.dst (.slice (some ⟨w.heap.size, 0, none⟩) c c)) W') : wpList Try.prog ops Q (o :: rest) a w := by
  obtain ⟨i, hi, hz0, hz1, hz2⟩ := info_parts infoInt
  obtain ⟨w', hr, ho', hg⟩ := run_make_full (P := Try.prog) w w.heap.size 22 3 i _ 1 Try.underlying22 hi hz0 hz1 .i64 .i64 c (by rw [hz2]; omega) (by unfold maxLen; omega) (Nat.le_refl _)
  rw [made_ints] at ho'
  unfold wpList
  rw [if_pos hw]
  left
  unfold Oper.wp execOp
  simp only [ho, Sem.run_bind, hx, hy, hr, Result.andThen_ok]
  exact h _ ho' (below_grown (Below.refl _ _) hg)
end
theorem rem_num (r : Int) (d : Int) (hd : 0 < d) (hd2 : d ≤ 50) : ∃ R : Nat, wrap64 ((IntKind.u64.wrap r).tmod d) = (R : Int) ∧ (R : Int) < d := by
  have h2 : 0 ≤ IntKind.u64.wrap r := by simp [IntKind.wrap, IntKind.signed, IntKind.bits] <;> omega
  have h3 := Int.tmod_nonneg d h2
  have h4 := Int.tmod_lt_of_pos (IntKind.u64.wrap r) (b := d) hd
  generalize (IntKind.u64.wrap r).tmod d = x at *
  refine ⟨x.toNat, ?_, by omega⟩
  unfold wrap64; omega

set_option maxHeartbeats 20000000 in
set_option maxRecDepth 100000 in
theorem walk (kind : Int) (hk : -9223372036854775808 ≤ kind ∧ kind ≤ 9223372036854775807) (n : Int) (hn : -9223372036854775808 ≤ n ∧ n ≤ 9223372036854775807) (W : World) :
    Calls Try.prog 8 #[.int .i64 kind, .int .i64 n] W fun e w' => e = .returned (.bool true) ∧ Below W.heap.size W w' := by
  obtain ⟨K, hK, hK9⟩ := rem_num kind 9 (by omega) (by omega)
  obtain ⟨m, hm, hm50⟩ := rem_num n 50 (by omega) (by omega)
  go_enter Try.func8, Try.ntmps8
  go_upto_region 3 with (go_at_call 9; refine (alive5_any _).mono ?_; rintro e V1 ⟨rfl, b1⟩)
  go_upto_region 4 with fail
  rw [hm]
  clear hK hm hk hn
  go_upto_region 5 with (refine mk_i rfl rfl rfl rfl (by omega) ?_; intro V2 hO2 b2)
  have I1 := own_is hO2
  have hA := ab_alloc (Below.refl V2.heap.size V2) (.cells #[.int .i64 (1 + (K : Int)), .int .i64 999, .int .i64 0, .slice (some ⟨V1.heap.size, 0, none⟩) m m, .slice none 0 0, .slice none 0 0] 26)
  have hB := Blk.new V2 #[.int .i64 (1 + (K : Int)), .int .i64 999, .int .i64 0, .slice (some ⟨V1.heap.size, 0, none⟩) m m, .slice none 0 0, .slice none 0 0] 26
  have I2 := I1.keep hA
  have hw2 := ab_trans (ab_trans b1 b2) hA
  clear I1 hO2 b1 b2 hA
  generalize V2.alloc (.cells #[.int .i64 (1 + (K : Int)), .int .i64 999, .int .i64 0, .slice (some ⟨V1.heap.size, 0, none⟩) m m, .slice none 0 0, .slice none 0 0] 26) = V at *
  generalize V2.heap.size = B at *
  have HG : Hid (∀ k : Int, GoodN ⟨k, 999, 0, List.replicate m 0, [], []⟩ ↔ FitK k m 0 0) := fun k => ⟨fun h => by simpa using h.fit, fun h => ⟨by simp, by simp, by simpa using h, fun o ho => by simp at ho⟩⟩
  have HC : Hid (∀ k : Int, Calls Try.prog 15 #[.agg #[.int .i64 k, .int .i64 999, .int .i64 0, .slice (some ⟨V1.heap.size, 0, none⟩) m m, .slice none 0 0, .slice none 0 0]] V fun e w' => ((FitK k m 0 0 → e = .returned .nilIface) ∧ (¬ FitK k m 0 0 → e = .returned (Err 2))) ∧ Below V.heap.size V w') := fun k =>
    (check_any ⟨k, 999, 0, List.replicate m 0, [], []⟩ _ _ _ _ I2 (SR.nil _ _ _) (SR.nil _ _ _)).mono fun e w' h => ⟨⟨fun hf => h.1.1 ((HG.out k).2 hf), fun hf => h.1.2 fun hg => hf ((HG.out k).1 hg)⟩, h.2⟩
  obtain ⟨p0, p1, p2, p3, p4, p5, -, -, -, -, -, -⟩ := six hB
  clear hB HG I2
  go_upto_block 0 with fail
  go_cut [6] from 26 to 71 (fun s wc => (∃ gd : Bool, s = .bool gd ∧ (gd = true ↔ FitK (1 + (K : Int)) m 0 0)) ∧ wc = V)
  case first =>
    clear HC p0 p1 p2 p3 p4 p5 hw2
    have hK8 : K = 0 ∨ K = 1 ∨ K = 2 ∨ K = 3 ∨ K = 4 ∨ K = 5 ∨ K = 6 ∨ K = 7 ∨ K = 8 := by omega
    rcases hK8 with rfl | rfl | rfl | rfl | rfl | rfl | rfl | rfl | rfl
    · have hKK : (1 : Int) + ((0 : Nat) : Int) = 1 := by omega
      rw [hKK] at *
      go_wp2_with fail
      go_meet
      case rel => exact ⟨⟨_, rfl, by simp; unfold FitK; omega⟩, rfl⟩
    · have hKK : (1 : Int) + ((1 : Nat) : Int) = 2 := by omega
      rw [hKK] at *
      by_cases h2 : (7 : Int) ≤ (m : Int)
      · have e1 : 7 ≤ m := by omega
        by_cases h1 : (m : Int) ≤ 39
        · have e2 : m ≤ 39 := by omega
          go_wp2_with fail
          go_meet
          case rel => exact ⟨⟨_, rfl, by simp; unfold FitK; omega⟩, rfl⟩
        · have e2 : ¬ m ≤ 39 := by omega
          go_wp2_with fail
          go_meet
          case rel => exact ⟨⟨_, rfl, by simp; unfold FitK; omega⟩, rfl⟩
      · have e1 : ¬ 7 ≤ m := by omega
        go_wp2_with fail
        go_meet
        case rel => exact ⟨⟨_, rfl, by simp; unfold FitK; omega⟩, rfl⟩
    · have hKK : (1 : Int) + ((2 : Nat) : Int) = 3 := by omega
      rw [hKK] at *
      by_cases h2 : (4 : Int) ≤ (m : Int)
      · have e1 : 4 ≤ m := by omega
        by_cases h1 : (m : Int) ≤ 36
        · have e2 : m ≤ 36 := by omega
          go_wp2_with fail
          go_meet
          case rel => exact ⟨⟨_, rfl, by simp; unfold FitK; omega⟩, rfl⟩
        · have e2 : ¬ m ≤ 36 := by omega
          go_wp2_with fail
          go_meet
          case rel => exact ⟨⟨_, rfl, by simp; unfold FitK; omega⟩, rfl⟩
      · have e1 : ¬ 4 ≤ m := by omega
        go_wp2_with fail
        go_meet
        case rel => exact ⟨⟨_, rfl, by simp; unfold FitK; omega⟩, rfl⟩
    · have hKK : (1 : Int) + ((3 : Nat) : Int) = 4 := by omega
      rw [hKK] at *
      go_wp2_with fail
      go_meet
      case rel => exact ⟨⟨_, rfl, by simp; unfold FitK; omega⟩, rfl⟩
    · have hKK : (1 : Int) + ((4 : Nat) : Int) = 5 := by omega
      rw [hKK] at *
      go_wp2_with fail
      go_meet
      case rel => exact ⟨⟨_, rfl, by simp; unfold FitK; omega⟩, rfl⟩
    · have hKK : (1 : Int) + ((5 : Nat) : Int) = 6 := by omega
      rw [hKK] at *
      by_cases h2 : m % 2 = 1
      · have e1 : ((m : Int).tmod 2 == 1) = true := by rw [Int.tmod_eq_emod_of_nonneg (by omega)]; simp; omega
        by_cases h1 : (m : Int) ≤ 25
        · have e2 : m ≤ 25 := by omega
          go_wp2_with fail
          go_meet
          case rel => exact ⟨⟨_, rfl, by simp; unfold FitK; omega⟩, rfl⟩
        · have e2 : ¬ m ≤ 25 := by omega
          go_wp2_with fail
          go_meet
          case rel => exact ⟨⟨_, rfl, by simp; unfold FitK; omega⟩, rfl⟩
      · have e1 : ((m : Int).tmod 2 == 1) = false := by rw [Int.tmod_eq_emod_of_nonneg (by omega)]; simp; omega
        go_wp2_with fail
        go_meet
        case rel => exact ⟨⟨_, rfl, by simp; unfold FitK; omega⟩, rfl⟩
    · have hKK : (1 : Int) + ((6 : Nat) : Int) = 7 := by omega
      rw [hKK] at *
      by_cases h3 : m % 2 = 0
      · have e1 : ((m : Int).tmod 2 == 0) = true := by rw [Int.tmod_eq_emod_of_nonneg (by omega)]; simp; omega
        by_cases h2 : (2 : Int) ≤ (m : Int)
        · have e2 : 2 ≤ m := by omega
          by_cases h1 : (m : Int) ≤ 26
          · have e3 : m ≤ 26 := by omega
            go_wp2_with fail
            go_meet
            case rel => exact ⟨⟨_, rfl, by simp; unfold FitK; omega⟩, rfl⟩
          · have e3 : ¬ m ≤ 26 := by omega
            go_wp2_with fail
            go_meet
            case rel => exact ⟨⟨_, rfl, by simp; unfold FitK; omega⟩, rfl⟩
        · have e2 : ¬ 2 ≤ m := by omega
          go_wp2_with fail
          go_meet
          case rel => exact ⟨⟨_, rfl, by simp; unfold FitK; omega⟩, rfl⟩
      · have e1 : ((m : Int).tmod 2 == 0) = false := by rw [Int.tmod_eq_emod_of_nonneg (by omega)]; simp; omega
        go_wp2_with fail
        go_meet
        case rel => exact ⟨⟨_, rfl, by simp; unfold FitK; omega⟩, rfl⟩
    · have hKK : (1 : Int) + ((7 : Nat) : Int) = 8 := by omega
      rw [hKK] at *
      go_wp2_with fail
      go_meet
      case rel => exact ⟨⟨_, rfl, by simp; unfold FitK; omega⟩, rfl⟩
    · have hKK : (1 : Int) + ((8 : Nat) : Int) = 9 := by omega
      rw [hKK] at *
      go_wp2_with fail
      go_meet
      case rel => exact ⟨⟨_, rfl, by simp; unfold FitK; omega⟩, rfl⟩
  case rest =>
    obtain ⟨⟨gd, rfl, hgd⟩, rfl⟩ := hcut
    by_cases hF : FitK (1 + (K : Int)) m 0 0
    · obtain rfl : gd = true := hgd.2 hF
      have HF : Hid (FitK (1 + (K : Int)) m 0 0) := hF
      clear hgd hF
      have h00 := eq00
      go_upto_region 20 with (go_at_call 15; refine (HC.out _).mono ?_; rintro e W5 ⟨hck, b5⟩; obtain rfl := hck.1 HF.out; clear hck)
      have hw5 := ab_trans hw2 b5
      clear HC p0 p1 p2 p3 p4 p5 b5 HF
      go_wp2_with fail
      go_ret
      exact ⟨rfl, hw5⟩
    · obtain rfl : gd = false := by cases gd with | false => rfl | true => exact absurd (hgd.1 rfl) hF
      have HF : Hid (¬ FitK (1 + (K : Int)) m 0 0) := hF
      clear hgd hF
      have h20 := eq20
      have h22 := eq22
      go_upto_region 20 with (go_at_call 15; refine (HC.out _).mono ?_; rintro e W5 ⟨hck, b5⟩; obtain rfl := hck.2 HF.out; clear hck)
      have hw5 := ab_trans hw2 b5
      clear HC p0 p1 p2 p3 p4 p5 b5 HF
      go_wp2_with fail
      go_ret
      exact ⟨rfl, hw5⟩

theorem own : ownKnob Try.prog.godebug = none := by kernel_rfl
theorem laidOut : laidOutB Try.prog = true := by kernel_rfl

set_option maxRecDepth 100000 in
theorem lifted (os : Os) (started : os.Started) (H : Type) (enc : TypeId × Value → H) :
    ReturnsInHanded {} Try.checked os 8 .any (Rows.noteKindsSpec.pre6 enc Try.prog Try.f8 Rows.noteKindsRow.domain false) (Rows.noteKindsSpec.post enc Try.prog Try.f8 false true false false) := by
  refine returnsInHanded_of_change (C := Try.checked) own started (by kernel_rfl) Try.func8
    (ChangeSpec.witness6 (enc := enc) (C := Try.checked) false ⟨#[], #[.int .i64 0, .int .i64 0], []⟩ 8 (by kernel_rfl) (by kernel_rfl) (by kernel_rfl) (by kernel_rfl)) ?_
  intro W base args ds gs before hval0 hW hcnd _
  have hval : ∀ (j : Nat) t v, Try.f8.params[j]? = some t → args[j]? = some v → Value.okWide Try.prog W .any base t v := hval0
  have hW' := hW
  obtain ⟨p, q, hA0, hV, rfl, hfz, hnd⟩ := hW
  have hA : DataW.TrodAll enc Try.prog W 0 (fun _ => true) true Try.f8.params.toList args.toList ds p := hA0
  rw [Try.params8] at hA hval
  obtain ⟨v0, vs0, d0, ds0, p0, q0, hargs, rfl, rfl, h0, r0⟩ := trodAll_cons hA
  obtain ⟨v1, vs1, d1, ds1, p1, q1, rfl, rfl, rfl, h1, r1⟩ := trodAll_cons r0
  obtain ⟨rfl, rfl, rfl⟩ := trodAll_nil r1
  obtain rfl : args = #[v0, v1] := by cases args; simp_all
  obtain ⟨rfl, rfl⟩ := trodVars_none hV
  have k0 := h0
  have lt0 : ∀ x ∈ p0, x.block < W.heap.size := by obtain ⟨m, hm⟩ := k0; exact DataW.trod_lt m _ _ _ hm
  have k1 := h1
  have lt1 : ∀ x ∈ p1, x.block < W.heap.size := by obtain ⟨m, hm⟩ := k1; exact DataW.trod_lt m _ _ _ hm
  obtain ⟨a0, rfl, rfl, rfl, w0⟩ := open_int Try.underlying3 (hval 0 3 v0 rfl rfl) h0
  obtain ⟨a1, rfl, rfl, rfl, w1⟩ := open_int Try.underlying3 (hval 1 3 v1 rfl rfl) h1
  clear hA0 hval0
  refine (walk a0 (bounds_i64 w0) a1 (bounds_i64 w1) W).mono fun e W' ⟨he, bel⟩ => ?_
  subst he
  exact ⟨_, rfl, _, _, _, [], _, [], hW', trodAll_mk1 (shut_bool Try.underlying4 _), (trodAll_cons_mk (Below.trod laidOut (by kernel_rfl) (of_decide_eq_true (by kernel_rfl)) k0 bel lt0) (trodAll_cons_mk (Below.trod laidOut (by kernel_rfl) (of_decide_eq_true (by kernel_rfl)) k1 bel lt1) trodAll_mk0)), rfl, bel.frame _, fun h => by cases h⟩

theorem over : Rows.noteKindsRow.holds Try.pinned (OpenSpec.ofChange Rows.noteKindsSpec) :=
  OpenClaim.holds_of_wide 8 Try.f8 rfl rfl rfl rfl rfl rfl rfl ⟨rfl, rfl, rfl, rfl, rfl⟩ rfl rfl rfl rfl rfl (by kernel_rfl) Try.func8 (by kernel_rfl)
    (of_decide_eq_true (by kernel_rfl)) (by unfold Func.isWrapper; first | (rw [if_pos (by decide +kernel)]; kernel_rfl) | (rw [if_neg (by decide +kernel)]; exact ⟨rfl, rfl⟩))
    (fun os started H enc _ => lifted os started H enc)

theorem proved : Rows.NoteKindsSaid := over
end Go.Proofs.Ytjbhicjnnghjjaa.noteKinds
namespace Go.Proofs.Ytjbhicjnnghjjaa
theorem noteKinds_holds : Rows.NoteKindsSaid := noteKinds.proved
#print axioms noteKinds_holds
end Go.Proofs.Ytjbhicjnnghjjaa
