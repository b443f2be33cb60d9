/-
  The document's plan: Good, Roles, Of, Lane; plan's Node, Of and Lane.
-/
import Derived.Test.YtnooedipanhkjaaPnC
namespace Go.Proofs.Ytnooedipanhkjaa
open Go.RowKit
set_option linter.unusedVariables false
set_option maxRecDepth 100000

theorem all_iff {l : List Int} : allB l = true ↔ ∀ x ∈ l, 1 ≤ x := by
  unfold allB
  simp only [List.all_eq_true, Bool.not_eq_true', decide_eq_false_iff_not, Int.not_lt]
theorem gd_iff {p : Pn} : gdP p = true ↔ (1 ≤ p.so ∧ p.so ≤ 4) ∧ (p.ke = 1 ∨ p.ke = 3 ∨ p.ke = 5) ∧ (1 ≤ (p.l.length : Int) ∧ (p.l.length : Int) ≤ 3) ∧ (∀ x ∈ p.l, 1 ≤ x) ∧ (1 ≤ p.sh ∧ p.sh ≤ 4) ∧ (1 ≤ p.ho ∧ p.ho ≤ 64) ∧ (1 ≤ p.ce ∧ p.ce ≤ 1024) ∧ (1 ≤ p.ba ∧ p.ba ≤ 16) ∧ (1 ≤ p.le ∧ p.le ≤ 20) := by
  constructor
  · intro h
    obtain ⟨e1, e2, e3, e4⟩ := gd_bd h
    unfold gdP at h
    simp only [Bool.and_eq_true, up_iff, beq_iff_eq] at h
    obtain ⟨⟨⟨⟨⟨⟨⟨⟨⟨h1, h2⟩, h3⟩, h4⟩, h5⟩, h6⟩, h7⟩, h8⟩, h9⟩, h10⟩ := h
    exact ⟨e1, e2, e3, all_iff.1 h5, e4, h7, h8, h9, h10⟩
  · rintro ⟨h1, h2, h3, h4, h5, h6, h7, h8, h9⟩
    unfold gdP
    simp only [Bool.and_eq_true, up_iff, beq_iff_eq]
    refine ⟨⟨⟨⟨⟨⟨⟨⟨⟨h1, by omega⟩, ?_⟩, h3⟩, all_iff.2 h4⟩, h5⟩, h6⟩, h7⟩, h8⟩, h9⟩
    rcases h2 with e | e | e <;> rw [e] <;> decide

def ndF (s : Int × Int) (i : Int) : Int × Bool := if 0 ≤ i ∧ i < s.2 then (s.1 + i, true) else (0, false)
theorem sp_bd (p : Pn) (r : Int) : (0 ≤ (spF (pnS p) (pnT p) (pnK p) (pnI p) r).1 ∧ (spF (pnS p) (pnT p) (pnK p) (pnI p) r).1 ≤ 11) ∧ (0 ≤ (spF (pnS p) (pnT p) (pnK p) (pnI p) r).2 ∧ (spF (pnS p) (pnT p) (pnK p) (pnI p) r).2 ≤ 5) := by
  obtain ⟨h1, h2, h3, h4⟩ := n_bd p
  unfold spF
  repeat' split
  all_goals (dsimp only; omega)
abbrev ndV (x : Int × Bool) : Value := .tuple #[.int .i64 x.1, .bool x.2]
theorem pnode_any (p : Pn) (r i : Int) (w : World) (hv : Is w p.v p.l) :
    Calls Try.prog 18 #[pnV p, .int .i64 r, .int .i64 i] w fun e w' => e = .returned (ndV (ndF (spF (pnS p) (pnT p) (pnK p) (pnI p) r) i)) ∧ Below w.heap.size w w' := by
  obtain ⟨A, hAe, hX, hw⟩ := blk1 w (pnC p) 24
  have HG := pspan_any p r A (hv.keep hw)
  have hbd := sp_bd p r
  generalize spF (pnS p) (pnT p) (pnK p) (pnI p) r = s at *
  obtain ⟨f, n⟩ := s
  dsimp only at hbd
  clear hv
  by_cases c : i < 0
  · have HV : Hid (ndF (f, n) i = (0, false)) := by show _ = _; unfold ndF; rw [if_neg (by omega)]
    go_enter Try.func18, Try.ntmps18
    go_upto_region 1 with fail
    clear hAe
    go_wp2_with (first
      | (refine ld_blk rfl rfl hX rfl _ Try.underlying24 rfl info_pn ?_)
      | (go_at_call 24; refine HG.mono ?_; rintro e W ⟨rfl, b1⟩))
    go_ret2
    exact ⟨by rw [HV.out]; rfl, ab_trans hw b1⟩
  by_cases c2 : i < n
  · have HV : Hid (ndF (f, n) i = (f + i, true)) := by show _ = _; unfold ndF; rw [if_pos (by dsimp only; omega)]
    go_enter Try.func18, Try.ntmps18
    go_upto_region 1 with fail
    clear hAe
    go_wp2_with (first
      | (refine ld_blk rfl rfl hX rfl _ Try.underlying24 rfl info_pn ?_)
      | (go_at_call 24; refine HG.mono ?_; rintro e W ⟨rfl, b1⟩))
    go_ret2
    exact ⟨by rw [HV.out]; rfl, ab_trans hw b1⟩
  · have HV : Hid (ndF (f, n) i = (0, false)) := by show _ = _; unfold ndF; rw [if_neg (by dsimp only; omega)]
    go_enter Try.func18, Try.ntmps18
    go_upto_region 1 with fail
    clear hAe
    go_wp2_with (first
      | (refine ld_blk rfl rfl hX rfl _ Try.underlying24 rfl info_pn ?_)
      | (go_at_call 24; refine HG.mono ?_; rintro e W ⟨rfl, b1⟩))
    go_ret2
    exact ⟨by rw [HV.out]; rfl, ab_trans hw b1⟩
/-- Numbers one behind the other. -/
def rgL (s : Int) (n : Nat) : List Int := (List.range n).map fun k : Nat => s + (k : Int)
theorem rgL_succ (s : Int) (n : Nat) : rgL s (n + 1) = rgL s n ++ [s + (n : Int)] := by unfold rgL; rw [List.range_succ, List.map_append]; rfl
theorem rgL_len (s : Int) (n : Nat) : (rgL s n).length = n := by simp [rgL]
def ofL (p : Pn) (r : Int) : List Int := rgL (spF (pnS p) (pnT p) (pnK p) (pnI p) r).1 (spF (pnS p) (pnT p) (pnK p) (pnI p) r).2.toNat
set_option maxHeartbeats 1000000 in
theorem pof_any (p : Pn) (r : Int) (w : World) (hv : Is w p.v p.l) :
    Calls Try.prog 16 #[pnV p, .int .i64 r] w fun e w' => ∃ v, e = .returned v ∧ Io w' w.heap.size v (ofL p r) ∧ Below w.heap.size w w' := by
  obtain ⟨A, hAe, hX, hw⟩ := blk1 w (pnC p) 24
  have HG := pspan_any p r A (hv.keep hw)
  have hbd := sp_bd p r
  unfold ofL
  generalize spF (pnS p) (pnT p) (pnK p) (pnI p) r = s at *
  obtain ⟨f, m⟩ := s
  dsimp only at hbd ⊢
  obtain ⟨n, rfl⟩ : ∃ n : Nat, m = (n : Int) := ⟨m.toNat, by omega⟩
  rw [Int.toNat_natCast]
  clear hv
  go_enter Try.func16, Try.ntmps16
  go_upto_region 1 with fail
  clear hAe
  go_upto_region 2 with (first
    | (refine ld_blk rfl rfl hX rfl _ Try.underlying24 rfl info_pn ?_)
    | (go_at_call 24; refine HG.mono ?_; rintro e W ⟨rfl, b1⟩))
  have hwW := ab_trans hw b1
  clear hX HG hw b1
  go_upto_region 3 with (refine mk_own (c := n) W rfl rfl Try.underlying22 infoInt rfl rfl (by omega) (by omega) (by unfold maxLen; omega) (Below.refl _ _) ?_; intro v1 W1 own1 nn1 b1 b1'; clear b1'; go_frame)
  go_wp2_with fail
  go_loopw [7, 18] (fun x i wr => ∃ (k : Nat) (v : Value), k ≤ n ∧ i = .int .i64 (k : Int) ∧ x = v ∧ wr.ownsRow W.heap.size 3 1 v k (ints (rgL f k)) ∧ Below W.heap.size W wr) (fun _ i _ => n - (intOf i).toNat)
  case atStart => exact ⟨0, _, by omega, rfl, rfl, own1, b1⟩
  case round =>
    clear own1 nn1 b1
    obtain ⟨k, v, hk, rfl, rfl, hO, hb⟩ := hrel
    by_cases c : k = n
    · subst c
      go_wp2_with fail
      go_ret
      exact ⟨_, rfl, (io_of hO).less hwW.size, ab_trans hwW hb⟩
    · have hki : (k : Int) < (n : Int) := by omega
      go_wp2_with (first
        | (refine bs_own rfl rfl [f + (k : Int)] (by simp only [List.map_toArray, List.map_cons, List.map_nil]; rfl) (isl1 _ _) rfl (by decide) ?_; intro W3 own3 b3 z3; clear z3; go_frame)
        | (have mk := b3; clear mk; refine app_iL W rfl rfl rfl (own_keep hO b3) rfl (own_is own3) (k := 1) rfl (by omega) (ab_trans hb b3) ?_; intro v4 W4 own4 nn4 b4 gr4; clear gr4; go_frame))
      go_roundw
      case rel => exact ⟨k + 1, _, by omega, by go_num, rfl, by rw [rgL_succ]; exact own4, b4⟩
      case measure => simp [intOf]; omega
end Go.Proofs.Ytnooedipanhkjaa
