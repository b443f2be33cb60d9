/-
  Cells joined: cell.Unit, cell.Join.
-/
import Derived.Test.YtfnageillhpjpaaPk29
import Derived.WalkMore
namespace Go.Proofs.Ytfnageillhpjpaa
set_option maxRecDepth 100000
open Go.RowKit Go.Shelf
set_option linter.unusedVariables false

theorem built0 : Try.prog.built 54 [] = some (CA zc) := by kernel_rfl
theorem unit_any (w : World) : Calls Try.prog 29 #[] w fun e w' => e = .returned (.agg (CA zc)) ∧ Below w.heap.size w w' := by
  have zz := zero_cell
  go_enter Try.func29, Try.ntmps29
  go_wp2_with (first
    | (refine al_cell rfl rfl ?_; intro W1 e1 hR hw; clear e1)
    | (refine st_cell rfl rfl hR rfl rfl ?_; intro W2 hR2 C2))
  exact bodyPost_ret (results_cell_row rfl _ _ _ 54 _ (0, 0) _ rfl hR2 Try.underlying54 rfl (info_cell _)) rfl ⟨rfl, ab_chg hw C2 (by omega)⟩

/-- What cells come to, so far. -/
def stepJ (s : Option (Nat → Int)) (c : Nat → Int) : Option (Nat → Int) :=
  if eqC c zc then s else some (match s with | none => c | some x => bothF x c)
theorem stepJ_unit {s : Option (Nat → Int)} {c : Nat → Int} (h : eqC c zc = true) : stepJ s c = s := by unfold stepJ; rw [if_pos h]
theorem stepJ_none {c : Nat → Int} (h : eqC c zc = false) : stepJ none c = some c := by unfold stepJ; rw [if_neg (by rw [h]; simp)]
theorem stepJ_some {x c : Nat → Int} (h : eqC c zc = false) : stepJ (some x) c = some (bothF x c) := by unfold stepJ; rw [if_neg (by rw [h]; simp)]
def joinO (l : List (Nat → Int)) : Option (Nat → Int) := l.foldl stepJ none
def joinF (l : List (Nat → Int)) : Nat → Int := (joinO l).getD zc
theorem joinO_snoc (l : List (Nat → Int)) (c : Nat → Int) : joinO (l ++ [c]) = stepJ (joinO l) c := by simp [joinO]
theorem wf_zc : Wf zc := ⟨by simp [zc], fun i _ _ => by simp [zc]⟩
theorem wf_both {a b : Nat → Int} (ha : Wf a) (hb : Wf b) : Wf (bothF a b) := by
  refine ⟨?_, fun i hi h2 => ?_⟩
  · have : bothF a b 2 = wl (wv (a 1) (a 2) + wv (b 1) (b 2)) := rfl
    rw [this]; have := wl_bd (wv (a 1) (a 2) + wv (b 1) (b 2)); omega
  · unfold bothF headF
    have a3 := ha.2 3 (by omega) (by omega)
    have b3 := hb.2 3 (by omega) (by omega)
    have a4 := ha.2 4 (by omega) (by omega)
    have b4 := hb.2 4 (by omega) (by omega)
    have ai := ha.2 i hi h2
    have bi := hb.2 i hi h2
    have hh := wh_bd (wv (a 1) (a 2) + wv (b 1) (b 2))
    repeat' split
    all_goals first | omega | (unfold wrap64; omega)

theorem wf_stepJ {s : Option (Nat → Int)} {c : Nat → Int} (hs : ∀ x, s = some x → Wf x) (hc : Wf c) : ∀ x, stepJ s c = some x → Wf x := by
  intro x hx
  unfold stepJ at hx
  split at hx
  · exact hs x hx
  · cases s with
    | none => simp at hx; subst hx; exact hc
    | some y => simp at hx; subst hx; exact wf_both (hs y rfl) hc
theorem wf_fold : ∀ (l : List (Nat → Int)) (s : Option (Nat → Int)), (∀ c ∈ l, Wf c) → (∀ x, s = some x → Wf x) → ∀ x, l.foldl stepJ s = some x → Wf x
  | [], s, _, hs => hs
  | c :: l, s, hl, hs => wf_fold l (stepJ s c) (fun d hd => hl d (by simp [hd])) (wf_stepJ hs (hl c (by simp)))
theorem wf_joinO (l : List (Nat → Int)) (h : ∀ c ∈ l, Wf c) : ∀ x, joinO l = some x → Wf x := wf_fold l none h (fun _ e => by cases e)
theorem wf_joinF (l : List (Nat → Int)) (h : ∀ c ∈ l, Wf c) : Wf (joinF l) := by
  unfold joinF
  cases e : joinO l with
  | none => exact wf_zc
  | some x => exact wf_joinO l h x e

/-- A row of cells in memory. -/
def CRow (W : World) (g off : Nat) (l : List (Nat → Int)) : Prop := ∀ j c, l[j]? = some c → W.rangeAt g (off + j * 74) (CA c).toList

set_option maxHeartbeats 1000000 in
theorem join_any (g off n cap : Nat) (l : List (Nat → Int)) (w : World) (hn : l.length = n) (hb : n ≤ 1000000) (hl : ∀ c ∈ l, Wf c) (hr : CRow w g off l) (hg : g < w.heap.size) :
    Calls Try.prog 55 #[.slice (some ⟨g, off, none⟩) n cap] w fun e w' => e = .returned (.agg (CA (joinF l))) ∧ Below w.heap.size w w' := by
  go_enter Try.func55, Try.ntmps55
  go_wp2_with (refine al_cell rfl rfl ?_; intro W1 e1 hR1 hw1; clear e1)
  go_step3
  go_wp2_with (first
    | (go_at_call 29; refine (unit_any _).mono ?_; rintro e W2 ⟨rfl, hb2⟩; have hR2 := hR1.keep hb2; have hw2 := ab_trans hw1 hb2)
    | (refine al_cell rfl rfl ?_; intro W3 e3 hS3 hg3; clear e3; have hR3 := hR2.keep hg3; have hw3 := ab_trans hw2 hg3)
    | (refine st_cell rfl rfl hS3 rfl rfl ?_; intro W4 hS4 C4; have hR4 := hR3.chg C4 (by have := hR2.lt; omega); have hw4 := ab_chg hw3 C4 (by have := hw2.size; omega); have hz4 : W2.heap.size < W4.heap.size := hS4.lt))
  go_step3
  go_wp2_with fail
  have hwR : w.heap.size < W2.heap.size := hR2.lt
  clear hR1 hw1 hb2 hR2 hg3 hS3 hR3 hw3 C4
  clear hw2
  generalize W2.heap.size = B at *
  go_loopw [4, 10] (fun tk i wr => ∃ k : Nat, k ≤ n ∧ i = .int .i64 (k : Int) ∧ tk = .bool (joinO (l.take k)).isSome ∧ Blk wr B (CA ((joinO (l.take k)).getD zc)) 54 ∧ Blk wr w.heap.size (CA zc) 54 ∧ Below w.heap.size w wr) (fun _ i _ => n - (intOf i).toNat)
  case atStart => exact ⟨0, by omega, rfl, rfl, hS4, hR4, hw4⟩
  case round =>
    clear hS4 hR4 hw4 hz4
    obtain ⟨k, hk, rfl, rfl, hS, hR, hw⟩ := hrel
    by_cases c : k = n
    · have HJ : Hid ((joinO (l.take k)).getD zc = joinF l) := by show _ = _; rw [List.take_of_length_le (by omega)]; rfl
      rw [HJ.out] at hS
      clear HJ
      subst c
      go_wp2_with (first
        | (refine ld_cell rfl rfl hS rfl ?_)
        | (refine st_cell rfl rfl hR rfl rfl ?_; intro W9 hR9 C9))
      rw [Exit.noGoto_ret]
      exact bodyPost_ret (results_cell_row rfl _ _ _ 54 _ (0, 0) _ rfl hR9 Try.underlying54 rfl (info_cell _)) rfl ⟨rfl, ab_chg hw C9 (by omega)⟩
    · have hlt : k < l.length := by omega
      obtain ⟨x, hx⟩ : ∃ x, l[k]? = some x := ⟨l[k], List.getElem?_eq_getElem hlt⟩
      have hxw : Wf x := hl x (List.mem_of_getElem? hx)
      have hki : (k : Int) < (n : Int) := by omega
      have hrx : wr.rangeAt g (off + k * 74) (CA x).toList := fun j v hv => by rw [hw.cell (p := ⟨g, _, none⟩) hg]; exact hr k x hx j v hv
      have HJ : Hid (joinO (l.take (k + 1)) = stepJ (joinO (l.take k)) x) := by
        show _ = _
        rw [List.take_add_one, hx]; exact joinO_snoc _ _
      have HW : Hid (∀ y, joinO (l.take k) = some y → Wf y) := wf_joinO _ (fun d hd => hl d (List.mem_of_mem_take hd))
      clear hr hl hx hlt
      generalize joinO (l.take k) = s at *
      go_upto_region 7 with (first
        | (refine ld_cell_mid rfl rfl hrx rfl ?_)
        | (refine al_cell rfl rfl ?_; intro W5 e5 hC5 hg5; clear e5)
        | (refine st_cell rfl rfl hC5 rfl rfl ?_; intro W6 hC6 C6))
      have hS6 := (hS.keep hg5).chg C6 (by have := hS.lt; omega)
      have hR6 := (hR.keep hg5).chg C6 (by have := hR.lt; omega)
      have hw6 := ab_chg (ab_trans hw hg5) C6 (by have := hR.lt; omega)
      clear hC5 hg5 C6 hrx
      refine wp_region_below (by kernel_rfl) (by kernel_rfl) ?_
      have HZ := cls_some W6
      refine q_ld_cell rfl rfl rfl hC6 ?_
      simp only [Act.put, List.setIfInBounds_toArray, List.set_cons_succ, List.set_cons_zero]
      go_big_quiet_step (first | (go_at_call 29; exact calls_below (unit_any _)))
      refine q_eql_cell rfl rfl rfl rfl ?_
      simp only [Act.put, List.setIfInBounds_toArray, List.set_cons_succ, List.set_cons_zero]
      go_big_quiet_step (fail)
      refine wpQuiet_nil ?_
      rintro _ ⟨⟨W7, b7⟩, rfl⟩
      have hS7 := hS6.keep b7
      have hR7 := hR6.keep b7
      have hC7 := hC6.keep b7
      have hw7 := ab_trans hw6 b7
      clear hS6 hR6 hC6 hw6 b7 HZ hS hR hw
      have hBR : w.heap.size ≠ B := by omega
      generalize hq : eqC x zc = q
      have HQ : Hid (eqC x zc = q) := hq
      clear hq
      cases q with
      | true =>
        have HN : Hid (joinO (l.take (k + 1)) = s) := by show _ = _; rw [HJ.out]; exact stepJ_unit HQ.out
        go_wp2_with fail
        go_roundw
        case rel => exact ⟨k + 1, by omega, by go_num, by rw [HN.out], by rw [HN.out]; exact hS7, hR7, hw7⟩
        case measure => simp [intOf]; omega
      | false =>
        cases s with
        | none =>
          have HN : Hid (joinO (l.take (k + 1)) = some x) := by show _ = _; rw [HJ.out]; exact stepJ_none HQ.out
          go_wp2_with (first
            | (refine ld_cell rfl rfl hC7 rfl ?_)
            | (refine st_cell rfl rfl hS7 rfl rfl ?_; intro W9 hS9 C9))
          have hR9 := hR7.chg C9 hBR
          have hw9 := ab_chg hw7 C9 (by omega)
          go_roundw
          case rel => exact ⟨k + 1, by omega, by go_num, by rw [HN.out]; rfl, by rw [HN.out]; exact hS9, hR9, hw9⟩
          case measure => simp [intOf]; omega
        | some y =>
          have HN : Hid (joinO (l.take (k + 1)) = some (bothF y x)) := by show _ = _; rw [HJ.out]; exact stepJ_some HQ.out
          have hyw := HW.out y rfl
          simp only [Option.getD_some] at hS7
          go_wp2_with (first
            | (refine ld_cell rfl rfl hC7 rfl ?_)
            | (refine ld_cell rfl rfl hS7 rfl ?_)
            | (go_at_call 64; refine (both_any _ _ _ hyw hxw).mono ?_; rintro e W8 ⟨rfl, b8⟩; have hS8 := hS7.keep b8; have hR8 := hR7.keep b8; have hw8 := ab_trans hw7 b8)
            | (refine st_cell rfl rfl hS8 rfl rfl ?_; intro W9 hS9 C9))
          have hR9 := hR8.chg C9 hBR
          have hw9 := ab_chg hw8 C9 (by omega)
          go_roundw
          case rel => exact ⟨k + 1, by omega, by go_num, by rw [HN.out]; rfl, by rw [HN.out]; exact hS9, hR9, hw9⟩
          case measure => simp [intOf]; omega
end Go.Proofs.Ytfnageillhpjpaa
