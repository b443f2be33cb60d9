/-
  package diary in memory: a row's frame, write, Add, Len, Bytes, what a nil diary answers.
-/
import Derived.Test.YtalbiggmmmkclaaDyP
import Derived.Test.YtalbiggmmmkclaaTpU
namespace Go.Proofs.Ytalbiggmmmkclaa
open Go.RowKit
set_option linter.unusedVariables false
set_option maxRecDepth 100000

/-- A diary's cells: its tape, how many rows, how many bytes. -/
abbrev dcs (b n k : Nat) : Array Value := #[tptr b, .int .i64 ((n : Nat) : Int), .int .i64 ((k : Nat) : Int)]
theorem Blk.mv {W W' : World} {base b d : Nat} {v v' : Value} {S : TS} {xs : Array Value} {t : TypeId} (h : Blk W d xs t) (hT : Tp W base b v S) (m : Mv b W W' v v') (h1 : t ≠ 76) (h2 : t ≠ 5) : Blk W' d xs t := by
  unfold Blk
  rw [m.other d h.lt (blk_ne h hT.blk h1) (blk_own hT.own h h2)]
  exact h
theorem own_at {W W' : World} {base n e size : Nat} {v : Value} {xs : List Value} (h : W.ownsRow base e size v n xs) (he : ∀ g, v.ownBlock = some g → W'.heap[g]? = W.heap[g]?) : W'.ownsRow base e size v n xs := by
  refine ⟨h.1, ?_⟩
  rcases h.2 with h2 | ⟨g, cap, cur, rfl, hb, hg, h4⟩
  · exact .inl h2
  · exact .inr ⟨g, cap, cur, rfl, hb, (he g rfl).trans hg, h4⟩
theorem eq07 (w : World) : (binOp .eql 33 .nilIface (Err 7)).run Try.prog w = .ok (.bool false) w := by kernel_rfl
theorem eq57 (w : World) : (binOp .eql 33 (Err 5) (Err 7)).run Try.prog w = .ok (.bool false) w := by kernel_rfl
theorem eq67 (w : World) : (binOp .eql 33 (Err 6) (Err 7)).run Try.prog w = .ok (.bool false) w := by kernel_rfl
theorem eq7n (w : World) : (binOp .eql 33 (Err 7) (Err 7)).run Try.prog w = .ok (.bool true) w := by kernel_rfl
theorem eq5n (w : World) : (binOp .eql 33 (Err 5) .nilIface).run Try.prog w = .ok (.bool false) w := by kernel_rfl
theorem eq6n (w : World) : (binOp .eql 33 (Err 6) .nilIface).run Try.prog w = .ok (.bool false) w := by kernel_rfl
theorem ne5n (w : World) : (binOp .neq 33 (Err 5) .nilIface).run Try.prog w = .ok (.bool true) w := by kernel_rfl
theorem ne6n (w : World) : (binOp .neq 33 (Err 6) .nilIface).run Try.prog w = .ok (.bool true) w := by kernel_rfl
theorem flat_one (a : List Nat) : [a].flatten = a := by simp

set_option maxHeartbeats 1000000 in
theorem write_any (base b d nr ns : Nat) (v x : Value) (m : List Nat) (S : TS) (w : World) (hT : Tp w base b v S) (hst : S.steps < 4611686018427387000) (hD : Blk w d (dcs b nr ns) 80) (hx : Stb b w v x m) :
    Calls Try.prog 41 #[tptr d, x] w fun e w' => e = .returned (errV (wrN S m)) ∧ ∃ v', Tp w' base b v' (wrS S m) ∧ Mv b w w' v v' := by
  obtain ⟨qx, nx, cx, ex⟩ := hx.sl.slice
  subst ex
  have c0 := hD.at (i := 0) rfl
  go_enter Try.func41, Try.ntmps41
  go_upto_region 2 with (first
    | (refine bs_ls rfl rfl [_] [m] (by simp only [List.map_toArray, List.map_cons, List.map_nil]; rfl) (bsl1 _ _ _ _) rfl (by decide) rfl (each1 hx.sl) ?_; intro W2 ls2 b2 k2; have h2 := hT.keep b2; have st2 := stl_new (n := 1) [_] [m] hT b2 k2 rfl (by decide) rfl (eachS1 hx))
    | (go_at_call 48; refine (append_any _ _ _ _ _ _ _ _ h2 (by omega) st2).mono ?_; rw [flat_one]; rintro e W3 ⟨rfl, v3, h3, m3⟩))
  have mv3 := (mv_below (b := b) v b2).trans m3
  have hD3 := hD.mv hT mv3 (by decide) (by decide)
  have d0 := hD3.at (i := 0) rfl
  have hs3 := steps_ap S m
  have e07 := eq07
  have e57 := eq57
  have e67 := eq67
  have e5n := eq5n
  have e6n := eq6n
  have n5n := ne5n
  have n6n := ne6n
  clear m3 st2 h2 k2 ls2 b2 hx c0 hD
  rcases apN_of S m.length with hN | hN | hN | hN
  · have HN : Hid (wrN S m = stN (apS S m)) := if_pos hN
    have HS : Hid (wrS S m = if stN (apS S m) = 0 then syS (apS S m) else ctS (syS (apS S m))) := if_pos hN
    rw [errV_ok hN]
    generalize hAS : apS S m = A at *
    clear hN
    go_upto_region 6 with (go_at_call 49; refine (sync_any _ _ _ _ _ h3 (by omega)).mono ?_; rintro e W4 ⟨rfl, h4, m4⟩)
    have hD4 := hD3.mv h3 m4 (by decide) (by decide)
    have d4 := hD4.at (i := 0) rfl
    have mv4 := mv3.trans m4
    clear hD3 h3 d0 mv3 m4
    rcases stN_of A with hM | hM | hM
    · have HE : Hid (errV (wrN S m) = .nilIface) := by show _ = _; rw [HN.out, errV_ok hM]
      have HS2 : Hid (wrS S m = syS A) := HS.out.trans (if_pos hM)
      rw [errV_ok hM]
      go_wp2_with fail
      go_ret
      exact ⟨by rw [HE.out]; rfl, _, by rw [HS2.out]; exact h4, mv4⟩
    · have HE : Hid (errV (wrN S m) = Err 5) := by show _ = _; rw [HN.out, hM]; rfl
      have HS2 : Hid (wrS S m = ctS (syS A)) := HS.out.trans (if_neg (by omega))
      rw [hM, show errV 5 = Err 5 from rfl]
      go_wp2_with (go_at_call 56; refine (cut_any _ _ _ _ _ h4).mono ?_; rintro e W5 ⟨rfl, v5, h5, m5⟩)
      go_ret
      exact ⟨by rw [HE.out]; rfl, _, by rw [HS2.out]; exact h5, mv4.trans m5⟩
    · have HE : Hid (errV (wrN S m) = Err 6) := by show _ = _; rw [HN.out, hM]; rfl
      have HS2 : Hid (wrS S m = ctS (syS A)) := HS.out.trans (if_neg (by omega))
      rw [hM, show errV 6 = Err 6 from rfl]
      go_wp2_with (go_at_call 56; refine (cut_any _ _ _ _ _ h4).mono ?_; rintro e W5 ⟨rfl, v5, h5, m5⟩)
      go_ret
      exact ⟨by rw [HE.out]; rfl, _, by rw [HS2.out]; exact h5, mv4.trans m5⟩
  · have HE : Hid (errV (wrN S m) = Err 5) := by show _ = _; unfold wrN; rw [if_neg (by omega), hN]; rfl
    have HS2 : Hid (wrS S m = ctS (apS S m)) := by show _ = _; unfold wrS; rw [if_neg (by omega), if_neg (by omega)]
    rw [hN, show errV 5 = Err 5 from rfl]
    clear hN
    go_wp2_with (go_at_call 56; refine (cut_any _ _ _ _ _ h3).mono ?_; rintro e W5 ⟨rfl, v5, h5, m5⟩)
    go_ret
    exact ⟨by rw [HE.out]; rfl, _, by rw [HS2.out]; exact h5, mv3.trans m5⟩
  · have HE : Hid (errV (wrN S m) = Err 6) := by show _ = _; unfold wrN; rw [if_neg (by omega), hN]; rfl
    have HS2 : Hid (wrS S m = ctS (apS S m)) := by show _ = _; unfold wrS; rw [if_neg (by omega), if_neg (by omega)]
    rw [hN, show errV 6 = Err 6 from rfl]
    clear hN
    go_wp2_with (go_at_call 56; refine (cut_any _ _ _ _ _ h3).mono ?_; rintro e W5 ⟨rfl, v5, h5, m5⟩)
    go_ret
    exact ⟨by rw [HE.out]; rfl, _, by rw [HS2.out]; exact h5, mv3.trans m5⟩
  · have HE : Hid (errV (wrN S m) = Err 7) := by show _ = _; unfold wrN; rw [if_neg (by omega), hN]; rfl
    have HS2 : Hid (wrS S m = apS S m) := by show _ = _; unfold wrS; rw [if_neg (by omega), if_pos hN]
    have e7n := eq7n
    rw [hN, show errV 7 = Err 7 from rfl]
    clear hN
    go_wp2_with fail
    go_ret
    exact ⟨by rw [HE.out]; rfl, _, by rw [HS2.out]; exact h3, mv3⟩
end Go.Proofs.Ytalbiggmmmkclaa
