/-
  package diary in memory: Add, Len, Bytes, without, a nil diary.
-/
import Derived.Test.YtalbiggmmmkclaaDyA
namespace Go.Proofs.Ytalbiggmmmkclaa
open Go.RowKit
set_option linter.unusedVariables false
set_option maxRecDepth 100000

theorem wrN_of (S : TS) (m : List Nat) : wrN S m = 0 ∨ wrN S m = 5 ∨ wrN S m = 6 ∨ wrN S m = 7 := by
  unfold wrN
  split
  · rcases stN_of (apS S m) with h | h | h <;> simp [h]
  · exact apN_of S _
/-- Whatever turns in the diary's block and in the tape's memory: a third one. -/
theorem tp_far {w : World} {base b d nr ns : Nat} {v : Value} {S : TS} (hT : Tp w base b v S) (hD : Blk w d (dcs b nr ns) 80) : b ≠ d ∧ v.ownBlock ≠ some d :=
  ⟨Ne.symm (blk_ne hD hT.blk (by decide)), blk_own hT.own hD (by decide)⟩
theorem Mw.refl (b r : Nat) (w : World) (v : Value) : Mw b r w w v v := (Mv.refl b w v).mw r
theorem mw_below {b r : Nat} {w w' : World} (v : Value) (h : Below w.heap.size w w') : Mw b r w w' v v := (mv_below v h).mw r
set_option maxHeartbeats 1000000 in
theorem dadd_any (base b d nr ns : Nat) (v x : Value) (m : List Nat) (S : TS) (w : World) (hT : Tp w base b v S) (hst : S.steps < 4611686018427387000) (hD : Blk w d (dcs b nr ns) 80) (hx : Sl w x m) (hb : Byt m) (hm : m.length ≤ 16376) (hnr : nr ≤ 4611686018427387904) (hns : ns ≤ 4611686018427387904) :
    Calls Try.prog 16 #[tptr d, x] w fun e w' => e = .returned (errV (wrN S (frm m))) ∧ ∃ v', Tp w' base b v' (wrS S (frm m)) ∧ Mw b d w w' v v' ∧ (wrN S (frm m) = 0 → Blk w' d (dcs b (nr + 1) (ns + (8 + m.length))) 80) ∧ (wrN S (frm m) ≠ 0 → Blk w' d (dcs b nr ns) 80) := by
  obtain ⟨qx, nx, cx, ex⟩ := hx.slice
  subst ex
  have HL : Hid ((frm m).length = 8 + m.length) := frm_len m
  have n5n := ne5n
  have n6n := ne6n
  have n7n := ne70
  go_enter Try.func16, Try.ntmps16
  go_upto_region 7 with (first
    | (refine bs_ls rfl rfl [_] [m] (by simp only [List.map_toArray, List.map_cons, List.map_nil]; rfl) (bsl1 _ _ _ _) rfl (by decide) rfl (each1 hx) ?_; intro W2 ls2 b2 k2)
    | (go_at_call 40; refine (wrap_ok _ _ _ _ ls2 (by intro l hl; simp at hl; subst hl; exact hb) (by rw [flat_one]; exact hm)).mono ?_; rw [flat_one]; rintro e W3 ⟨v3, rfl, O3, -, b3⟩; obtain ⟨q3, c3, e3⟩ := O3.form; rw [HL.out] at e3; subst e3; have h3 := (hT.keep b2).keep b3; have hD3 := (hD.keep b2).keep b3; have t3 := stb_own (hT.keep b2) O3)
    | (go_at_call 41; refine (write_any _ _ _ _ _ _ _ _ _ _ h3 (by omega) hD3 t3).mono ?_; rintro e W4 ⟨rfl, v4, h4, m4⟩))
  have mv4 := ((mv_below (b := b) v b2).trans (mv_below v b3)).trans m4
  have hD4 := hD3.mv h3 m4 (by decide) (by decide)
  obtain ⟨far1, far2⟩ := tp_far h4 hD4
  have d1 := hD4.at (i := 1) rfl
  have d2 := hD4.at (i := 2) rfl
  have f1 := hD4.frozen 1
  have f2 := hD4.frozen 2
  clear m4 t3 h3 hD3 b3 b2 ls2 k2 O3 hT hD hx hb
  rcases wrN_of S (frm m) with hN | hN | hN | hN
  · have HN : Hid (wrN S (frm m) = 0) := hN
    rw [errV_ok hN]
    clear hN
    generalize hml : m.length = nm at *
    go_wp2_with fail
    go_ret
    have hB := (hD4.set 1 (.int .i64 (((nr + 1 : Nat) : Int)))).set 2 (.int .i64 ((ns + (8 + nm) : Nat) : Int))
    have k5 : Chg d W4 _ := (chg_set W4 d 1 (.int .i64 (((nr + 1 : Nat) : Int)))).trans (chg_set _ d 2 (.int .i64 ((ns + (8 + nm) : Nat) : Int)))
    refine ⟨by rw [HN.out]; rfl, v4, h4.chgO k5 far1 far2, (mv4.mw d).trans (k5.mw b v4), fun _ => by rw [hml]; exact hB, fun h => absurd HN.out h⟩
  · have HN : Hid (wrN S (frm m) = 5) := hN
    rw [hN, show errV 5 = Err 5 from rfl]
    clear hN
    go_wp2_with fail
    go_ret
    exact ⟨by rw [HN.out]; rfl, v4, h4, mv4.mw d, fun h => (by rw [HN.out] at h; cases h), fun _ => hD4⟩
  · have HN : Hid (wrN S (frm m) = 6) := hN
    rw [hN, show errV 6 = Err 6 from rfl]
    clear hN
    go_wp2_with fail
    go_ret
    exact ⟨by rw [HN.out]; rfl, v4, h4, mv4.mw d, fun h => (by rw [HN.out] at h; cases h), fun _ => hD4⟩
  · have HN : Hid (wrN S (frm m) = 7) := hN
    rw [hN, show errV 7 = Err 7 from rfl]
    clear hN
    go_wp2_with fail
    go_ret
    exact ⟨by rw [HN.out]; rfl, v4, h4, mv4.mw d, fun h => (by rw [HN.out] at h; cases h), fun _ => hD4⟩
/-- A row that is too long. -/
theorem dadd_no (p : Option Addr) (x : Value) (m : List Nat) (w : World) (hx : Sl w x m) (hm : 16376 < m.length) (hr : m.length ≤ 200000000000000) :
    Calls Try.prog 16 #[.pointer p, x] w fun e w' => e = .returned (Err 7) ∧ Below w.heap.size w w' := by
  obtain ⟨qx, nx, cx, ex⟩ := hx.slice
  subst ex
  have n7n := ne70
  go_enter Try.func16, Try.ntmps16
  go_wp2_with (first
    | (refine bs_ls rfl rfl [_] [m] (by simp only [List.map_toArray, List.map_cons, List.map_nil]; rfl) (bsl1 _ _ _ _) rfl (by decide) rfl (each1 hx) ?_; intro W2 ls2 b2 k2)
    | (go_at_call 40; refine (wrap_noL _ _ _ _ ls2 (by intro l hl; simp at hl; subst hl; exact hr) (by rw [flat_one]; exact hm)).mono ?_; rintro e W3 ⟨rfl, b3⟩))
  go_ret
  exact ⟨rfl, ab_trans b2 b3⟩
theorem dadd_nil (x : Value) (m : List Nat) (w : World) (hx : Sl w x m) (hb : Byt m) (hm : m.length ≤ 16376) :
    Calls Try.prog 16 #[.pointer none, x] w fun e w' => e = .returned (Err 5) ∧ Below w.heap.size w w' := by
  obtain ⟨qx, nx, cx, ex⟩ := hx.slice
  subst ex
  have HL : Hid ((frm m).length = 8 + m.length) := frm_len m
  go_enter Try.func16, Try.ntmps16
  go_wp2_with (first
    | (refine bs_ls rfl rfl [_] [m] (by simp only [List.map_toArray, List.map_cons, List.map_nil]; rfl) (bsl1 _ _ _ _) rfl (by decide) rfl (each1 hx) ?_; intro W2 ls2 b2 k2)
    | (go_at_call 40; refine (wrap_ok _ _ _ _ ls2 (by intro l hl; simp at hl; subst hl; exact hb) (by rw [flat_one]; exact hm)).mono ?_; rw [flat_one]; rintro e W3 ⟨v3, rfl, O3, -, b3⟩; obtain ⟨q3, c3, e3⟩ := O3.form; rw [HL.out] at e3; subst e3))
  go_ret
  exact ⟨rfl, ab_trans b2 b3⟩
theorem dlen_any (b d nr ns : Nat) (w : World) (hD : Blk w d (dcs b nr ns) 80) : Calls Try.prog 29 #[tptr d] w fun e w' => e = .returned (.int .i64 ((nr : Nat) : Int)) ∧ w' = w := by
  have d1 := hD.at (i := 1) rfl
  go_enter Try.func29, Try.ntmps29
  go_wp2_with fail
  go_ret
  exact ⟨rfl, rfl⟩
theorem dbytes_any (b d nr ns : Nat) (w : World) (hD : Blk w d (dcs b nr ns) 80) : Calls Try.prog 30 #[tptr d] w fun e w' => e = .returned (.int .i64 ((ns : Nat) : Int)) ∧ w' = w := by
  have d2 := hD.at (i := 2) rfl
  go_enter Try.func30, Try.ntmps30
  go_wp2_with fail
  go_ret
  exact ⟨rfl, rfl⟩
theorem dlen_nil (w : World) : Calls Try.prog 29 #[.pointer none] w fun e w' => e = .returned (.int .i64 0) ∧ w' = w := by
  go_enter Try.func29, Try.ntmps29
  go_wp2_with fail
  go_ret
  exact ⟨rfl, rfl⟩
theorem dbytes_nil (w : World) : Calls Try.prog 30 #[.pointer none] w fun e w' => e = .returned (.int .i64 0) ∧ w' = w := by
  go_enter Try.func30, Try.ntmps30
  go_wp2_with fail
  go_ret
  exact ⟨rfl, rfl⟩
theorem dopen_nil (w : World) : Calls Try.prog 12 #[.pointer none] w fun e w' => e = .returned (.tuple #[.pointer none, .slice none 0 0, Err 5]) ∧ w' = w := by
  go_enter Try.func12, Try.ntmps12
  go_wp2_with (go_at_call 35; refine (down_nil _).mono ?_; rintro e X ⟨rfl, hX⟩; subst X)
  go_ret3
  exact ⟨rfl, rfl⟩
end Go.Proofs.Ytalbiggmmmkclaa
