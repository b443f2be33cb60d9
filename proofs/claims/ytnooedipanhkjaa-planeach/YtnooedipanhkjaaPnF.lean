/-
  The document's plan: Roles, Of, Lane; plan's Lane.
-/
import Derived.Test.YtnooedipanhkjaaPnE
namespace Go.Proofs.Ytnooedipanhkjaa
open Go.RowKit
set_option linter.unusedVariables false
set_option maxRecDepth 100000

/-- Each node's role. -/
def roL (p : Pn) : List Int := if gdP p then List.replicate p.so.toNat 1 ++ [2, 2] ++ List.replicate p.ke.toNat 3 ++ [4] else []
theorem rep_succ (n : Nat) (x : Int) : List.replicate (n + 1) x = List.replicate n x ++ [x] := List.replicate_succ'
set_option maxHeartbeats 2000000 in
theorem rroles_any (p : Pn) (w : World) (hv : Is w p.v p.l) :
    Calls Try.prog 13 #[pnV p] w fun e w' => ∃ v, e = .returned v ∧ Io w' w.heap.size v (roL p) ∧ Below w.heap.size w w' := by
  obtain ⟨A, hAe, hX, hw⟩ := blk1 w (pnC p) 24
  have HG := rgood19_any p A (hv.keep hw)
  cases hg : gdP p
  · have HR : Hid (roL p = []) := by show _ = _; unfold roL; rw [hg]; rfl
    rw [hg] at HG
    go_enter Try.func13, Try.ntmps13
    go_upto_region 1 with fail
    clear hAe
    go_wp2_with (first
      | (refine ld_blk rfl rfl hX rfl _ Try.underlying24 rfl info_pn ?_)
      | (go_at_call 10; refine HG.mono ?_; rintro e W ⟨rfl, b1⟩))
    go_ret
    exact ⟨_, rfl, by rw [HR.out]; exact ⟨rfl, .inl ⟨rfl, rfl⟩⟩, ab_trans hw b1⟩
  · obtain ⟨hso, hke, -, -⟩ := gd_bd hg
    obtain ⟨so, ke, v, l, sh, ho, ce, ba, le⟩ := p
    dsimp only at hso hke
    obtain ⟨n, rfl⟩ : ∃ n : Nat, so = (n : Int) := ⟨so.toNat, by omega⟩
    obtain ⟨m, rfl⟩ : ∃ m : Nat, ke = (m : Int) := ⟨ke.toNat, by omega⟩
    have HR : Hid (roL ⟨(n : Int), (m : Int), v, l, sh, ho, ce, ba, le⟩ = List.replicate n 1 ++ [2, 2] ++ List.replicate m 3 ++ [4]) := by show _ = _; unfold roL; rw [hg]; simp
    rw [hg] at HG
    have hm5 : m ≤ 5 := by omega
    have hn4 : n ≤ 4 := by omega
    clear hg hv hso hke
    go_enter Try.func13, Try.ntmps13
    go_upto_region 1 with fail
    clear hAe
    go_wp2_with (first
      | (refine ld_blk rfl rfl hX rfl _ Try.underlying24 rfl info_pn ?_)
      | (go_at_call 10; refine HG.mono ?_; rintro e W ⟨rfl, b1⟩))
    have hXW := hX.keep b1
    have hwW := ab_trans hw b1
    clear hX HG hw b1
    go_loopw [3, 4] (fun x i wr => ∃ (k : Nat) (u : Value), k ≤ n ∧ i = .int .i64 (k : Int) ∧ x = u ∧ wr.ownsRow W.heap.size 3 1 u k (ints (List.replicate k 1)) ∧ Below W.heap.size W wr) (fun _ i _ => n - (intOf i).toNat)
    case atStart => exact ⟨0, _, by omega, rfl, rfl, ⟨rfl, .inl ⟨rfl, rfl⟩⟩, Below.refl _ _⟩
    case round =>
      obtain ⟨k, u, hk, rfl, rfl, hO, hb⟩ := hrel
      have y0 : wr.cell? ⟨w.heap.size, 0, none⟩ = some (.int .i64 (n : Int)) := (hXW.keep hb).at rfl
      by_cases c : k = n
      · subst c
        go_upto_region 9 with (first
          | (refine bs_own rfl rfl [2, 2] (by simp only [List.map_toArray, List.map_cons, List.map_nil]; rfl) (isl2 _ _ _) rfl (by decide) ?_; intro W3 own3 b3 z3; clear z3; go_frame)
          | (have mk := b3; clear mk; refine app_iL W rfl rfl rfl (own_keep hO b3) rfl (own_is own3) (k := 2) rfl (by omega) (ab_trans hb b3) ?_; intro v4 W4 own4 nn4 b4 gr4; clear gr4; go_frame))
        clear hO hb y0 own3 b3 nn4
        go_wp2_with fail
        go_loopw [3, 5] (fun x i wr => ∃ (j : Nat) (u : Value), j ≤ m ∧ i = .int .i64 (j : Int) ∧ x = u ∧ wr.ownsRow W.heap.size 3 1 u (k + 2 + j) (ints (List.replicate k 1 ++ [2, 2] ++ List.replicate j 3)) ∧ Below W.heap.size W wr) (fun _ i _ => m - (intOf i).toNat)
        case atStart => exact ⟨0, _, by omega, rfl, rfl, by simpa using own4, b4⟩
        case round =>
          clear own4 b4
          obtain ⟨j, u, hj, rfl, rfl, hO, hb⟩ := hrel
          have y1 : wr.cell? ⟨w.heap.size, 1, none⟩ = some (.int .i64 (m : Int)) := (hXW.keep hb).at rfl
          by_cases c : j = m
          · subst c
            go_wp2_with (first
              | (refine bs_own rfl rfl [4] (by simp only [List.map_toArray, List.map_cons, List.map_nil]; rfl) (isl1 _ _) rfl (by decide) ?_; intro W3 own3 b3 z3; clear z3; go_frame)
              | (have mk := b3; clear mk; refine app_iL W rfl rfl rfl (own_keep hO b3) rfl (own_is own3) (k := 1) rfl (by omega) (ab_trans hb b3) ?_; intro v4 W4 own4 nn4 b4 gr4; clear gr4; go_frame))
            go_ret
            exact ⟨_, rfl, by rw [HR.out]; exact (io_of own4).less hwW.size, ab_trans hwW b4⟩
          · have hji : (j : Int) < (m : Int) := by omega
            go_wp2_with (first
              | (refine bs_own rfl rfl [3] (by simp only [List.map_toArray, List.map_cons, List.map_nil]; rfl) (isl1 _ _) rfl (by decide) ?_; intro W3 own3 b3 z3; clear z3; go_frame)
              | (have mk := b3; clear mk; refine app_iL W rfl rfl rfl (own_keep hO b3) rfl (own_is own3) (k := 1) rfl (by omega) (ab_trans hb b3) ?_; intro v4 W4 own4 nn4 b4 gr4; clear gr4; go_frame))
            go_roundw
            case rel => exact ⟨j + 1, _, by omega, by go_num, rfl, by rw [rep_succ, ← List.append_assoc]; exact own4, b4⟩
            case measure => simp [intOf]; omega
      · have hki : (k : Int) < (n : Int) := by omega
        go_wp2_with (first
          | (refine bs_own rfl rfl [1] (by simp only [List.map_toArray, List.map_cons, List.map_nil]; rfl) (isl1 _ _) rfl (by decide) ?_; intro W3 own3 b3 z3; clear z3; go_frame)
          | (have mk := b3; clear mk; refine app_iL W rfl rfl rfl (own_keep hO b3) rfl (own_is own3) (k := 1) rfl (by omega) (ab_trans hb b3) ?_; intro v4 W4 own4 nn4 b4 gr4; clear gr4; go_frame))
        go_roundw
        case rel => exact ⟨k + 1, _, by omega, by go_num, rfl, by rw [rep_succ]; exact own4, b4⟩
        case measure => simp [intOf]; omega
/-- Where a number stands. -/
def ixL (r : Int) (l : List Int) : List Int := ((List.range l.length).filter fun i => l[i]? == some r).map fun i : Nat => (i : Int)
theorem ix_snoc (r x : Int) (l : List Int) : ixL r (l ++ [x]) = ixL r l ++ (if x = r then [(l.length : Int)] else []) := by
  unfold ixL
  rw [List.length_append, List.length_singleton, List.range_succ, List.filter_append, List.map_append]
  have h1 : (List.range l.length).filter (fun i => (l ++ [x])[i]? == some r) = (List.range l.length).filter (fun i => l[i]? == some r) := by
    refine List.filter_congr (fun i hi => ?_)
    rw [List.getElem?_append_left (by simpa using hi)]
  rw [h1]
  congr 1
  by_cases c : x = r
  · simp [c]
  · simp [c]
theorem ix_len (r : Int) (l : List Int) : (ixL r l).length ≤ l.length := by
  unfold ixL
  rw [List.length_map]
  exact Nat.le_trans (List.length_filter_le _ _) (by simp)
theorem ro_len (p : Pn) : (roL p).length ≤ 12 := by
  unfold roL
  split
  · rename_i h
    have := gd_bd h
    simp
    omega
  · simp
set_option maxHeartbeats 2000000 in
theorem rof_any (p : Pn) (r : Int) (w : World) (hv : Is w p.v p.l) :
    Calls Try.prog 23 #[pnV p, .int .i64 r] w fun e w' => ∃ v, e = .returned v ∧ Io w' w.heap.size v (ixL r (roL p)) ∧ Below w.heap.size w w' := by
  obtain ⟨A, hAe, hX, hw⟩ := blk1 w (pnC p) 24
  have HG := rroles_any p A (hv.keep hw)
  have hlen := ro_len p
  generalize roL p = L at *
  obtain ⟨n, hn⟩ : ∃ n, L.length = n := ⟨_, rfl⟩
  clear hv
  go_enter Try.func23, Try.ntmps23
  go_upto_region 1 with fail
  clear hAe
  go_upto_region 2 with (first
    | (refine ld_blk rfl rfl hX rfl _ Try.underlying24 rfl info_pn ?_)
    | (go_at_call 13; refine HG.mono ?_; rintro e W ⟨v, rfl, hL, b1⟩))
  obtain ⟨q, cap, ev⟩ := hL.is.form
  rw [hn] at ev hlen
  subst ev
  have hwW := ab_trans hw b1
  have hLi := hL.is
  clear hX HG hw b1 hL
  go_wp2_with fail
  go_loopw [6, 7] (fun x i wr => ∃ (k : Nat) (u : Value), k ≤ n ∧ i = .int .i64 (k : Int) ∧ x = u ∧ wr.ownsRow W.heap.size 3 1 u (ixL r (L.take k)).length (ints (ixL r (L.take k))) ∧ Below W.heap.size W wr) (fun _ i _ => n - (intOf i).toNat)
  case atStart => exact ⟨0, _, by omega, rfl, rfl, ⟨rfl, .inl ⟨rfl, rfl⟩⟩, Below.refl _ _⟩
  case round =>
    obtain ⟨k, u, hk, rfl, rfl, hO, hb⟩ := hrel
    by_cases c : k = n
    · subst c
      rw [List.take_of_length_le (by omega)] at hO
      go_wp2_with fail
      go_ret
      exact ⟨_, rfl, (io_of hO).less hwW.size, ab_trans hwW hb⟩
    · obtain ⟨x, hx⟩ : ∃ x, L[k]? = some x := ⟨L[k], List.getElem?_eq_getElem (by omega)⟩
      obtain ⟨g, off, rfl, hg, hr⟩ := (hLi.keep hb).at (by omega)
      have y0 := hr k x hx
      have hki : (k : Int) < (n : Int) := by omega
      have hlk : (L.take k).length = k := by rw [List.length_take]; omega
      have hil : (ixL r (L.take k)).length ≤ 12 := by have := ix_len r (L.take k); omega
      have HS : Hid (ixL r (L.take (k + 1)) = ixL r (L.take k) ++ (if x = r then [(k : Int)] else [])) := by
        show _ = _
        rw [List.take_add_one, hx, Option.toList_some, ix_snoc, hlk]
      clear hr hx
      by_cases e : x = r
      · subst e
        have HS2 : Hid (ixL x (L.take (k + 1)) = ixL x (L.take k) ++ [(k : Int)]) := by show _ = _; rw [HS.out, if_pos rfl]
        clear HS
        generalize ixL x (L.take k) = J at *
        go_wp2_with (first
          | (refine bs_own rfl rfl [(k : Int)] (by simp only [List.map_toArray, List.map_cons, List.map_nil]; rfl) (isl1 _ _) rfl (by decide) ?_; intro W3 own3 b3 z3; clear z3; go_frame)
          | (have mk := b3; clear mk; refine app_iL W rfl rfl rfl (own_keep hO b3) rfl (own_is own3) (k := 1) rfl (by omega) (ab_trans hb b3) ?_; intro v4 W4 own4 nn4 b4 gr4; clear gr4; go_frame))
        go_roundw
        case rel => exact ⟨k + 1, _, by omega, by go_num, rfl, by rw [HS2.out, List.length_append]; exact own4, b4⟩
        case measure => simp [intOf]; omega
      · have HS2 : Hid (ixL r (L.take (k + 1)) = ixL r (L.take k)) := by show _ = _; rw [HS.out, if_neg e, List.append_nil]
        have e' : (x == r) = false := by simpa using e
        clear HS
        go_wp2_with fail
        go_roundw
        case rel => exact ⟨k + 1, _, by omega, by go_num, rfl, by rw [HS2.out]; exact hO, hb⟩
        case measure => simp [intOf]; omega
/-- The lane of a resolution and a key. -/
def laF (p : Pn) (i key : Int) : Int × Bool := if gdP p = true ∧ 0 ≤ i ∧ i < (p.l.length : Int) then (i * p.sh + flM key p.sh, true) else (0, false)
end Go.Proofs.Ytnooedipanhkjaa
