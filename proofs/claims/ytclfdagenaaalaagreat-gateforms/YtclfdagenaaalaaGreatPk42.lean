/-
  estuaryref05.Good.
-/
import Derived.Test.YtclfdagenaaalaaGreatPk41
import Derived.Deep.CutRange
import Derived.Deep.CutBlock
namespace Go.Proofs.YtclfdagenaaalaaGreat
set_option maxRecDepth 100000
open Go.RowKit Go.Shelf
set_option linter.unusedVariables false

def FitC (k : Int) (n : Nat) : Prop := ((k = 1 ∨ k = 4 ∨ k = 9) ∧ n = 4) ∨ (k = 2 ∧ 7 ≤ n ∧ n ≤ 39) ∨ (k = 3 ∧ 4 ≤ n ∧ n ≤ 36) ∨ (k = 5 ∧ n = 7) ∨ (k = 6 ∧ 1 ≤ n ∧ n ≤ 25 ∧ n % 2 = 1) ∨ (k = 7 ∧ 2 ≤ n ∧ n ≤ 26 ∧ n % 2 = 0) ∨ (k = 8 ∧ n = 6)
def FitM (k : Int) (m p : Nat) : Prop := (k = 7 ∨ m = 0) ∧ (k = 8 ∨ p = 0) ∧ m ≤ 16 ∧ p ≤ 16
theorem fitK_iff (k : Int) (n m p : Nat) : FitK k n m p ↔ FitC k n ∧ FitM k m p := by
  constructor
  · intro h
    rcases h with h | h | h | h | h | h | h
    · exact ⟨.inl ⟨h.1, h.2.1⟩, by unfold FitM; omega⟩
    · exact ⟨.inr (.inl ⟨h.1, h.2.1, h.2.2.1⟩), by unfold FitM; omega⟩
    · exact ⟨.inr (.inr (.inl ⟨h.1, h.2.1, h.2.2.1⟩)), by unfold FitM; omega⟩
    · exact ⟨.inr (.inr (.inr (.inl ⟨h.1, h.2.1⟩))), by unfold FitM; omega⟩
    · exact ⟨.inr (.inr (.inr (.inr (.inl ⟨h.1, h.2.1, h.2.2.1, h.2.2.2.1⟩)))), by unfold FitM; omega⟩
    · exact ⟨.inr (.inr (.inr (.inr (.inr (.inl ⟨h.1, h.2.1, h.2.2.1, h.2.2.2.1⟩))))), by unfold FitM; omega⟩
    · exact ⟨.inr (.inr (.inr (.inr (.inr (.inr ⟨h.1, h.2.1⟩))))), by unfold FitM; omega⟩
  · rintro ⟨h, g1, g2, g3, g4⟩
    rcases h with h | h | h | h | h | h | h
    · exact .inl ⟨h.1, h.2, by omega, by omega⟩
    · exact .inr (.inl ⟨h.1, h.2.1, h.2.2, by omega, by omega⟩)
    · exact .inr (.inr (.inl ⟨h.1, h.2.1, h.2.2, by omega, by omega⟩))
    · exact .inr (.inr (.inr (.inl ⟨h.1, h.2, by omega, by omega⟩)))
    · exact .inr (.inr (.inr (.inr (.inl ⟨h.1, h.2.1, h.2.2.1, h.2.2.2, by omega, by omega⟩))))
    · exact .inr (.inr (.inr (.inr (.inr (.inl ⟨h.1, h.2.1, h.2.2.1, h.2.2.2, by omega, by omega⟩)))))
    · exact .inr (.inr (.inr (.inr (.inr (.inr ⟨h.1, h.2, by omega, by omega⟩)))))

set_option maxHeartbeats 4000000 in
set_option maxRecDepth 100000 in
theorem good_any (N : Nt) (vn vo ve : Value) (w : World) (h1 : Is w vn N.ns) (h2 : SR 5 k64 w vo N.os) (h3 : SR 76 ek w ve N.es) :
    Calls Tryz.prog 32 #[ntV N vn vo ve] w fun r w' => BIff r (GoodN N) ∧ Below w.heap.size w w' := by
  obtain ⟨k, f, t, ns, os, es⟩ := N
  obtain ⟨qn, cn, gn, on, rfl, _, hcn, -, -, -⟩ := h1
  obtain ⟨qo, co, go, oo, rfl, hlo, hco, hpo, hgo, hro⟩ := h2
  obtain ⟨qe, ce, ge, oe, rfl, _, hce, -, -, -⟩ := h3
  dsimp only at *
  have HG : Hid (GoodN ⟨k, f, t, ns, os, es⟩ ↔ (0 ≤ f ∧ f ≤ 999) ∧ (0 ≤ t ∧ t ≤ 999) ∧ (FitC k ns.length ∧ FitM k os.length es.length) ∧ ∀ o ∈ os, o 1 = 1 ∨ o 1 = 2) := ⟨fun h => ⟨h.f, h.t, (fitK_iff _ _ _ _).1 h.fit, h.os⟩, fun h => ⟨h.1, h.2.1, (fitK_iff _ _ _ _).2 h.2.2.1, h.2.2.2⟩⟩
  generalize ns.length = n at *
  generalize hol : os.length = m at *
  generalize es.length = p at *
  go_enter Tryz.func32, Tryz.ntmps32
  go_upto_region 1 with fail
  have hB := Blk.new w #[.int .i64 k, .int .i64 f, .int .i64 t, .slice qn n cn, .slice qo m co, .slice qe p ce] 36
  have hA := ab_alloc (Below.refl w.heap.size w) (.cells #[.int .i64 k, .int .i64 f, .int .i64 t, .slice qn n cn, .slice qo m co, .slice qe p ce] 36)
  generalize w.alloc (.cells #[.int .i64 k, .int .i64 f, .int .i64 t, .slice qn n cn, .slice qo m co, .slice qe p ce] 36) = V at *
  obtain ⟨d0, d1, d2, d3, d4, d5, -, -, -, -, -, -⟩ := six hB
  clear hB
  by_cases a1 : f < 0
  · have HE : Hid (BIff (.returned (.bool false)) (GoodN ⟨k, f, t, ns, os, es⟩)) := biff_no fun h => by have := HG.out.1 h; omega
    go_wp2_with fail
    go_ret
    exact ⟨HE.out, hA⟩
  by_cases a2 : 999 < f
  · have HE : Hid (BIff (.returned (.bool false)) (GoodN ⟨k, f, t, ns, os, es⟩)) := biff_no fun h => by have := HG.out.1 h; omega
    go_wp2_with fail
    go_ret
    exact ⟨HE.out, hA⟩
  by_cases a3 : t < 0
  · have HE : Hid (BIff (.returned (.bool false)) (GoodN ⟨k, f, t, ns, os, es⟩)) := biff_no fun h => by have := HG.out.1 h; omega
    go_wp2_with fail
    go_ret
    exact ⟨HE.out, hA⟩
  by_cases a4 : 999 < t
  · have HE : Hid (BIff (.returned (.bool false)) (GoodN ⟨k, f, t, ns, os, es⟩)) := biff_no fun h => by have := HG.out.1 h; omega
    go_wp2_with fail
    go_ret
    exact ⟨HE.out, hA⟩
  have HG2 : Hid (GoodN ⟨k, f, t, ns, os, es⟩ ↔ (FitC k n ∧ FitM k m p) ∧ ∀ o ∈ os, o 1 = 1 ∨ o 1 = 2) := by
    refine HG.out.trans ⟨fun h => h.2.2, fun h => ⟨by omega, by omega, h⟩⟩
  clear HG
  go_upto_block 0 with fail
  clear a1 a2 a3 a4
  go_cut [4] from 29 to 84 (fun s wc => (∃ gd : Bool, s = .bool gd ∧ (gd = true ↔ FitC k n)) ∧ wc = V)
  case first =>
    clear d0 d1 d2 d3 d4 d5 HG2 hpo hgo hro
    by_cases q1 : k = 1
    · subst q1
      go_wp2_with fail
      go_meet
      case rel => exact ⟨⟨_, rfl, by simp <;> unfold FitC <;> omega⟩, rfl⟩
    by_cases q2 : k = 2
    · subst q2
      by_cases h2 : (7 : Int) ≤ (n : Int)
      · have e1 : 7 ≤ n := by omega
        by_cases h1 : (n : Int) ≤ 39
        · have e2 : n ≤ 39 := by omega
          go_wp2_with fail
          go_meet
          case rel => exact ⟨⟨_, rfl, by simp <;> unfold FitC <;> omega⟩, rfl⟩
        · have e2 : ¬ n ≤ 39 := by omega
          go_wp2_with fail
          go_meet
          case rel => exact ⟨⟨_, rfl, by simp <;> unfold FitC <;> omega⟩, rfl⟩
      · have e1 : ¬ 7 ≤ n := by omega
        go_wp2_with fail
        go_meet
        case rel => exact ⟨⟨_, rfl, by simp <;> unfold FitC <;> omega⟩, rfl⟩
    by_cases q3 : k = 3
    · subst q3
      by_cases h2 : (4 : Int) ≤ (n : Int)
      · have e1 : 4 ≤ n := by omega
        by_cases h1 : (n : Int) ≤ 36
        · have e2 : n ≤ 36 := by omega
          go_wp2_with fail
          go_meet
          case rel => exact ⟨⟨_, rfl, by simp <;> unfold FitC <;> omega⟩, rfl⟩
        · have e2 : ¬ n ≤ 36 := by omega
          go_wp2_with fail
          go_meet
          case rel => exact ⟨⟨_, rfl, by simp <;> unfold FitC <;> omega⟩, rfl⟩
      · have e1 : ¬ 4 ≤ n := by omega
        go_wp2_with fail
        go_meet
        case rel => exact ⟨⟨_, rfl, by simp <;> unfold FitC <;> omega⟩, rfl⟩
    by_cases q4 : k = 4
    · subst q4
      go_wp2_with fail
      go_meet
      case rel => exact ⟨⟨_, rfl, by simp <;> unfold FitC <;> omega⟩, rfl⟩
    by_cases q5 : k = 5
    · subst q5
      go_wp2_with fail
      go_meet
      case rel => exact ⟨⟨_, rfl, by simp <;> unfold FitC <;> omega⟩, rfl⟩
    by_cases q6 : k = 6
    · subst q6
      by_cases h2 : (1 : Int) ≤ (n : Int)
      · have e1 : 1 ≤ n := by omega
        by_cases h1 : (n : Int) ≤ 25
        · have e2 : n ≤ 25 := by omega
          by_cases h0 : n % 2 = 1
          · have e3 : ((n : Int).tmod 2 == 1) = true := by rw [Int.tmod_eq_emod_of_nonneg (by omega)]; simp; omega
            go_wp2_with fail
            go_meet
            case rel => exact ⟨⟨_, rfl, by simp <;> unfold FitC <;> omega⟩, rfl⟩
          · have e3 : ((n : Int).tmod 2 == 1) = false := by rw [Int.tmod_eq_emod_of_nonneg (by omega)]; simp; omega
            go_wp2_with fail
            go_meet
            case rel => exact ⟨⟨_, rfl, by simp <;> unfold FitC <;> omega⟩, rfl⟩
        · have e2 : ¬ n ≤ 25 := by omega
          go_wp2_with fail
          go_meet
          case rel => exact ⟨⟨_, rfl, by simp <;> unfold FitC <;> omega⟩, rfl⟩
      · have e1 : ¬ 1 ≤ n := by omega
        go_wp2_with fail
        go_meet
        case rel => exact ⟨⟨_, rfl, by simp <;> unfold FitC <;> omega⟩, rfl⟩
    by_cases q7 : k = 7
    · subst q7
      by_cases h2 : (2 : Int) ≤ (n : Int)
      · have e1 : 2 ≤ n := by omega
        by_cases h1 : (n : Int) ≤ 26
        · have e2 : n ≤ 26 := by omega
          by_cases h0 : n % 2 = 0
          · have e3 : ((n : Int).tmod 2 == 0) = true := by rw [Int.tmod_eq_emod_of_nonneg (by omega)]; simp; omega
            go_wp2_with fail
            go_meet
            case rel => exact ⟨⟨_, rfl, by simp <;> unfold FitC <;> omega⟩, rfl⟩
          · have e3 : ((n : Int).tmod 2 == 0) = false := by rw [Int.tmod_eq_emod_of_nonneg (by omega)]; simp; omega
            go_wp2_with fail
            go_meet
            case rel => exact ⟨⟨_, rfl, by simp <;> unfold FitC <;> omega⟩, rfl⟩
        · have e2 : ¬ n ≤ 26 := by omega
          go_wp2_with fail
          go_meet
          case rel => exact ⟨⟨_, rfl, by simp <;> unfold FitC <;> omega⟩, rfl⟩
      · have e1 : ¬ 2 ≤ n := by omega
        go_wp2_with fail
        go_meet
        case rel => exact ⟨⟨_, rfl, by simp <;> unfold FitC <;> omega⟩, rfl⟩
    by_cases q8 : k = 8
    · subst q8
      go_wp2_with fail
      go_meet
      case rel => exact ⟨⟨_, rfl, by simp <;> unfold FitC <;> omega⟩, rfl⟩
    by_cases q9 : k = 9
    · subst q9
      go_wp2_with fail
      go_meet
      case rel => exact ⟨⟨_, rfl, by simp <;> unfold FitC <;> omega⟩, rfl⟩
    have b1 : (k == 1) = false := by simpa using q1
    have b2 : (k == 2) = false := by simpa using q2
    have b3 : (k == 3) = false := by simpa using q3
    have b4 : (k == 4) = false := by simpa using q4
    have b5 : (k == 5) = false := by simpa using q5
    have b6 : (k == 6) = false := by simpa using q6
    have b7 : (k == 7) = false := by simpa using q7
    have b8 : (k == 8) = false := by simpa using q8
    have b9 : (k == 9) = false := by simpa using q9
    go_wp2_with fail
    go_meet
    case rel => exact ⟨⟨_, rfl, by simp <;> unfold FitC <;> omega⟩, rfl⟩
  case rest =>
    obtain ⟨⟨gd, rfl, hgd⟩, rfl⟩ := hcut
    cases gd with
    | false =>
      have HE : Hid (BIff (.returned (.bool false)) (GoodN ⟨k, f, t, ns, os, es⟩)) := biff_no fun h => absurd (hgd.2 (HG2.out.1 h).1.1) (by simp)
      clear hgd
      go_wp2_with fail
      go_ret
      exact ⟨HE.out, hA⟩
    | true =>
      have HC : Hid (FitC k n) := hgd.1 rfl
      clear hgd
      go_upto_region 24 with fail
      go_cut [118] from 87 to 118 (fun s wx => (∃ bd : Bool, s = .bool bd ∧ (bd = false ↔ FitM k m p)) ∧ wx = wc)
      case first =>
        clear hpo hgo hro
        by_cases k7 : k = 7
        · have b7 : (k != 7) = false := by simp [k7]
          have b8 : (k != 8) = true := by simp [k7]
          have HK7 : Hid (k = 7) := k7
          clear k7
          by_cases p0 : 0 < p
          · have p0i : (0 : Int) < (p : Int) := by omega
            go_wp2_with fail
            go_meet
            case rel => exact ⟨⟨_, rfl, by (try have hk7 : k = 7 := HK7.out); (try have hk8 : k = 8 := HK8.out); simp <;> unfold FitM <;> omega⟩, rfl⟩
          · have p0i : ¬ (0 : Int) < (p : Int) := by omega
            by_cases m6 : 16 < m
            · have m6i : (16 : Int) < (m : Int) := by omega
              go_wp2_with fail
              go_meet
              case rel => exact ⟨⟨_, rfl, by (try have hk7 : k = 7 := HK7.out); (try have hk8 : k = 8 := HK8.out); simp <;> unfold FitM <;> omega⟩, rfl⟩
            · have m6i : ¬ (16 : Int) < (m : Int) := by omega
              have p6i : ¬ (16 : Int) < (p : Int) := by omega
              have p6 : ¬ 16 < p := by omega
              go_wp2_with fail
              go_meet
              case rel => exact ⟨⟨_, rfl, by (try have hk7 : k = 7 := HK7.out); (try have hk8 : k = 8 := HK8.out); simp <;> unfold FitM <;> omega⟩, rfl⟩
        · have b7 : (k != 7) = true := by simp [k7]
          by_cases m0 : 0 < m
          · have m0i : (0 : Int) < (m : Int) := by omega
            go_wp2_with fail
            go_meet
            case rel => exact ⟨⟨_, rfl, by (try have hk7 : k = 7 := HK7.out); (try have hk8 : k = 8 := HK8.out); simp <;> unfold FitM <;> omega⟩, rfl⟩
          · have m0i : ¬ (0 : Int) < (m : Int) := by omega
            have m6i : ¬ (16 : Int) < (m : Int) := by omega
            have m6 : ¬ 16 < m := by omega
            by_cases k8 : k = 8
            · have b8 : (k != 8) = false := by simp [k8]
              have HK8 : Hid (k = 8) := k8
              clear k8
              by_cases p6 : 16 < p
              · have p6i : (16 : Int) < (p : Int) := by omega
                go_wp2_with fail
                go_meet
                case rel => exact ⟨⟨_, rfl, by (try have hk7 : k = 7 := HK7.out); (try have hk8 : k = 8 := HK8.out); simp <;> unfold FitM <;> omega⟩, rfl⟩
              · have p6i : ¬ (16 : Int) < (p : Int) := by omega
                go_wp2_with fail
                go_meet
                case rel => exact ⟨⟨_, rfl, by (try have hk7 : k = 7 := HK7.out); (try have hk8 : k = 8 := HK8.out); simp <;> unfold FitM <;> omega⟩, rfl⟩
            · have b8 : (k != 8) = true := by simp [k8]
              by_cases p0 : 0 < p
              · have p0i : (0 : Int) < (p : Int) := by omega
                go_wp2_with fail
                go_meet
                case rel => exact ⟨⟨_, rfl, by (try have hk7 : k = 7 := HK7.out); (try have hk8 : k = 8 := HK8.out); simp <;> unfold FitM <;> omega⟩, rfl⟩
              · have p0i : ¬ (0 : Int) < (p : Int) := by omega
                have p6i : ¬ (16 : Int) < (p : Int) := by omega
                have p6 : ¬ 16 < p := by omega
                go_wp2_with fail
                go_meet
                case rel => exact ⟨⟨_, rfl, by (try have hk7 : k = 7 := HK7.out); (try have hk8 : k = 8 := HK8.out); simp <;> unfold FitM <;> omega⟩, rfl⟩
      case rest =>
        obtain ⟨⟨bd, rfl, hbd⟩, rfl⟩ := hcut
        cases bd with
        | true =>
          have HE : Hid (BIff (.returned (.bool false)) (GoodN ⟨k, f, t, ns, os, es⟩)) := biff_no fun h => absurd (hbd.2 (HG2.out.1 h).1.2) (by simp)
          clear hbd
          go_wp2_with fail
          go_ret
          exact ⟨HE.out, hA⟩
        | false =>
          have HM : Hid (FitM k m p) := hbd.1 rfl
          clear hbd
          have HY : Hid ((∀ o ∈ os, o 1 = 1 ∨ o 1 = 2) → BIff (.returned (.bool true)) (GoodN ⟨k, f, t, ns, os, es⟩)) := fun h => biff_yes (HG2.out.2 ⟨⟨HC.out, HM.out⟩, h⟩)
          have HNo : Hid ((∃ o ∈ os, ¬ (o 1 = 1 ∨ o 1 = 2)) → BIff (.returned (.bool false)) (GoodN ⟨k, f, t, ns, os, es⟩)) := fun ⟨o, ho, hb⟩ => biff_no fun h => absurd ((HG2.out.1 h).2 o ho) hb
          clear HG2 HC HM d0 d1 d2 d3 d5
          go_wp2_with fail
          go_loopw [5] (fun i wr => ∃ j : Nat, j ≤ m ∧ i = .int .i64 (j : Int) ∧ (∀ o ∈ os.take j, o 1 = 1 ∨ o 1 = 2) ∧ wr = wc) (fun i _ => m - (intOf i).toNat)
          case atStart => exact ⟨0, by omega, rfl, fun o ho => by simp at ho, rfl⟩
          case round =>
            obtain ⟨j, hj, rfl, hgood, rfl⟩ := hrel
            have HGd : Hid (∀ o ∈ os.take j, o 1 = 1 ∨ o 1 = 2) := hgood
            clear hgood
            by_cases cj : j = m
            · subst cj
              have HE : Hid (BIff (.returned (.bool true)) (GoodN ⟨k, f, t, ns, os, es⟩)) := HY.out (by have := HGd.out; rwa [List.take_of_length_le (by omega)] at this)
              go_wp2_with fail
              go_ret
              exact ⟨HE.out, hA⟩
            · obtain ⟨x, hx⟩ : ∃ x, os[j]? = some x := ⟨os[j], List.getElem?_eq_getElem (by omega)⟩
              obtain rfl := hpo (by omega)
              have hr : wr.rangeAt go (oo + j * 5) (OA x).toList := fun i v hv => (hA.cell (p := ⟨go, _, none⟩) (hgo (by omega))).trans (hro j x hx i v hv)
              obtain ⟨x0, x1, x2, x3, x4⟩ := cells_op hr
              have hji : (j : Int) < (m : Int) := by omega
              have hjm : j < m := by omega
              have HX : Hid (x ∈ os) := List.mem_of_getElem? hx
              have HT : Hid (os.take (j + 1) = os.take j ++ [x]) := by show _ = _; rw [List.take_add_one, hx, Option.toList_some]
              clear hr hro hpo hgo hx hol
              by_cases c1 : x 1 = 1
              · have e1 : (x 1 != 1) = false := by simp [c1]
                go_wp2_with fail
                refine ⟨⟨j + 1, by omega, rfl, ?_, by first | rfl | trivial⟩, by simp only [intOf]; omega⟩
                intro o ho
                rw [HT.out] at ho
                rcases List.mem_append.1 ho with ho | ho
                · exact HGd.out o ho
                · simp at ho; subst ho; exact .inl c1
              · have e1 : (x 1 != 1) = true := by simp [c1]
                by_cases c2 : x 1 = 2
                · have e2 : (x 1 != 2) = false := by simp [c2]
                  go_wp2_with fail
                  refine ⟨⟨j + 1, by omega, rfl, ?_, by first | rfl | trivial⟩, by simp only [intOf]; omega⟩
                  intro o ho
                  rw [HT.out] at ho
                  rcases List.mem_append.1 ho with ho | ho
                  · exact HGd.out o ho
                  · simp at ho; subst ho; exact .inr c2
                · have e2 : (x 1 != 2) = true := by simp [c2]
                  have HE : Hid (BIff (.returned (.bool false)) (GoodN ⟨k, f, t, ns, os, es⟩)) := HNo.out ⟨x, HX.out, by omega⟩
                  go_wp2_with fail
                  go_ret
                  exact ⟨HE.out, hA⟩
end Go.Proofs.YtclfdagenaaalaaGreat
