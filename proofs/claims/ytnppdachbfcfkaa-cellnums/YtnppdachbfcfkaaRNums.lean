/-
  The document's numbers of a cell: estuaryref02.Nums.
-/
import Derived.Test.YtnppdachbfcfkaaNumsP
import Derived.Test.YtnppdachbfcfkaaIntsOwn
import Derived.Test.YtnppdachbfcfkaaSteps
namespace Go.Proofs.Ytnppdachbfcfkaa
open Go.RowKit
set_option linter.unusedVariables false

theorem pp_two (h : Nat → Int) (k : Nat) : flatP (pp h (k + 1)) = if h k = 0 then flatP (pp h k) else flatP (pp h k) ++ [(k : Int), h k] := by
  simp only [pp]; split
  · rfl
  · rw [flatP_snoc]
set_option maxHeartbeats 1000000 in
theorem rnums_any (c : Nat → Int) (w : World) (hc : Wf c) :
    Calls Try.prog 19 #[.agg (CA c)] w fun e w' => ∃ v, e = .returned v ∧ w'.ownsRow w.heap.size 3 1 v (numsF c).length (ints (numsF c)) ∧ v ≠ .slice none 0 0 ∧ Below w.heap.size w w' := by
  go_enter Try.func19, Try.ntmps19
  go_wp2_with fail
  have hA0 := Blk.new w (CA c) 31
  have hwA : Below w.heap.size w (w.alloc (.cells (CA c) 31)) := ab_alloc (Below.refl _ _) _
  have hzA : Hid (w.heap.size ≤ (w.alloc (.cells (CA c) 31)).heap.size) := by show _ ≤ _; simp
  generalize w.alloc (.cells (CA c) 31) = A at *
  go_loopw [3, 4] (fun v i wr => ∃ k : Nat, k ≤ 65 ∧ i = .int .i64 (k : Int) ∧ wr.ownsRow A.heap.size 3 1 v (flatP (pp (hf c) k)).length (ints (flatP (pp (hf c) k))) ∧ Below A.heap.size A wr) (fun _ i _ => 65 - (intOf i).toNat)
  case atStart => exact ⟨0, by omega, rfl, World.ownsRow_nil _ _ _ _, Below.refl _ _⟩
  case round =>
    obtain ⟨k, hk, rfl, hown, hw⟩ := hrel
    have hX := hA0.keep hw
    by_cases ck : k = 65
    · subst ck
      obtain ⟨z0, z1, z2, z3, z4, z5, z6, z7, z8⟩ := hX.nine
      have hlen := flatP_len (pp (hf c) 65)
      have hpl := pp_len (hf c) 65
      have b2 := hc.1
      have HF : Hid (numsF c = hdF c ((pp (hf c) 65).length : Int) ++ flatP (pp (hf c) 65)) := rfl
      obtain ⟨_, q, g, cap, rfl, hp, hg, hq, hnc, hir⟩ := own_irow hown
      generalize flatP (pp (hf c) 65) = P at *
      generalize hm : (pp (hf c) 65).length = m at *
      clear hm
      have hm2 : ((P.length : Nat) : Int) / 2 = (m : Int) := by omega
      have hPi : (P.length : Int) ≤ 130 := by omega
      have hPl : P.length ≤ 130 := by omega
      clear hc hlen hpl
      go_wp2_with (first
        | (refine bs_own rfl rfl (hdF c (m : Int)) (by simp only [List.map_toArray, List.map_cons, List.map_nil]; rfl) (isl10 _ _ _ _ _ _ _ _ _ _ _) rfl (by decide) ?_; intro V1 hN b1 z1; have hw1 := ab_trans hw b1; have hN1 := own_less hN hw.size; have hir1 := irow_keep hir (by simpa [*] using hg) b1)
        | (at_builtin; refine app_own A rfl rfl Try.underlying38 infoInt rfl (by decide) rfl hN1 (ints P) rfl ?c1 ?c2 ?c3 ?c4 ?c5 ?c6 hw1 ?_))
      case c1 => exact fun e => List.eq_nil_of_length_eq_zero (hq e)
      case c2 => simp [ints]
      case c3 =>
        intro ad had j u hu
        have hj : j < P.length := by have := (List.getElem?_eq_some_iff.1 hu).1; rwa [ints_len] at this
        rw [hp (by omega)] at had
        cases had
        rw [ints_at, List.getElem?_eq_getElem hj] at hu
        cases hu
        rw [Addr.add_mid]
        exact hir1 j _ (List.getElem?_eq_getElem hj)
      case c4 => exact ints_one _
      case c5 => unfold maxLen; omega
      case c6 => omega
      intro v' V2 hown' hnil b2 _
      have hv : v' ≠ .slice none 0 0 := by first | exact hnil | (intro e; have := (hnil.1 e).1; cases this)
      rw [ints_append, ← HF.out] at hown'
      have hown2 := own_less hown' (base' := w.heap.size) hzA.out
      have hl2 : (numsF c).length = 10 + P.length := by rw [HF.out]; simp [hdF]; omega
      rw [← hl2] at hown2
      go_wp2_with fail
      go_ret
      exact ⟨_, rfl, hown2, hv, hwA.trans (b2.mono hwA.size)⟩
    · have hki : (k : Int) < 65 := by omega
      have cX := hX.at (CA_at64 c (9 + k) (by omega) (by omega))
      have HP := pp_two (hf c) k
      have hlen := flatP_len (pp (hf c) k)
      have hpl := pp_len (hf c) k
      by_cases z : c (9 + k) = 0
      · rw [z] at cX
        have HN : Hid (flatP (pp (hf c) (k + 1)) = flatP (pp (hf c) k)) := by show _ = _; rw [HP, if_pos (show hf c k = 0 from z)]
        clear HP hlen hpl
        go_wp2_with fail
        go_roundw
        case rel => exact ⟨k + 1, by omega, by go_num, by rw [HN.out]; exact hown, hw⟩
        case measure => simp [intOf]; omega
      · have HN : Hid (flatP (pp (hf c) (k + 1)) = flatP (pp (hf c) k) ++ [(k : Int), c (9 + k)]) := by show _ = _; rw [HP, if_neg (show ¬ hf c k = 0 from z)]; rfl
        have zb : (c (9 + k) != 0) = true := by simpa using z
        clear HP
        generalize c (9 + k) = y at *
        generalize flatP (pp (hf c) k) = P at *
        generalize (pp (hf c) k).length = m at *
        have hPl : P.length ≤ 130 := by omega
        clear hlen hpl
        go_wp2_with (first
          | (refine bs_own rfl rfl [(k : Int), y] (by simp only [List.map_toArray, List.map_cons, List.map_nil]; rfl) (isl2 _ _ _) rfl (by decide) ?_; intro V1 hN b1 z1; have hown1 := own_keep hown b1; have hw1 := ab_trans hw b1)
          | (at_builtin; refine app_own A rfl rfl Try.underlying38 infoInt rfl (by decide) rfl hown1 (ints [(k : Int), y]) rfl ?c1 ?c2 ?c3 ?c4 ?c5 ?c6 hw1 ?_))
        case c1 => intro e; cases e
        case c2 => simp [ints]
        case c3 => exact own_src hN
        case c4 => exact ints_one _
        case c5 => unfold maxLen; omega
        case c6 => omega
        intro v' V2 hown' hnil b2 _
        clear hnil
        rw [ints_append] at hown'
        have hown2 : V2.ownsRow A.heap.size 3 1 v' (flatP (pp (hf c) (k + 1))).length (ints (flatP (pp (hf c) (k + 1)))) := by rw [HN.out]; simpa using hown'
        go_wp2_with fail
        go_roundw
        case rel => exact ⟨k + 1, by omega, by go_num, hown2, b2⟩
        case measure => simp [intOf]; omega
end Go.Proofs.Ytnppdachbfcfkaa
