/-
  plan's calls: Role, span, Node, Of.
-/
import Derived.Test.YtnooedipanhkjaaPnB
namespace Go.Proofs.Ytnooedipanhkjaa
open Go.RowKit
set_option linter.unusedVariables false
set_option maxRecDepth 100000

/-- A node's role, and which one of it. -/
def rlF (a b c d n : Int) : Int × Int × Bool := if n < 0 then (0, 0, false) else if n < a then (1, n, true) else if n < a + b then (2, n - a, true) else if n < a + b + c then (3, n - a - b, true) else if n < a + b + c + d then (4, n - a - b - c, true) else (0, 0, false)
abbrev rlV (r : Int × Int × Bool) : Value := .tuple #[.int .i64 r.1, .int .i64 r.2.1, .bool r.2.2]
set_option maxHeartbeats 1000000 in
theorem prole_any (p : Pn) (n : Int) (w : World) (hv : Is w p.v p.l) (n0 : -9223372036854775808 ≤ n) (n1 : n ≤ 9223372036854775807) :
    Calls Try.prog 17 #[pnV p, .int .i64 n] w fun e w' => e = .returned (rlV (rlF (pnS p) (pnT p) (pnK p) (pnI p) n)) ∧ Below w.heap.size w w' := by
  obtain ⟨A, hAe, hX, hw⟩ := blk1 w (pnC p) 24
  have HG := pcount_any p A (hv.keep hw)
  obtain ⟨hb1, hb2, hb3, hb4⟩ := n_bd p
  generalize pnS p = a at *
  generalize pnT p = b at *
  generalize pnK p = c at *
  generalize pnI p = d at *
  clear hv
  have HF : Hid (∀ r, r = rlF a b c d n → r = if n < 0 then (0, 0, false) else if n < a then (1, n, true) else if n < a + b then (2, n - a, true) else if n < a + b + c then (3, n - a - b, true) else if n < a + b + c + d then (4, n - a - b - c, true) else (0, 0, false)) := fun r h => h
  generalize hR : rlF a b c d n = R at *
  by_cases c0 : n < 0
  · have HV : Hid (R = (0, 0, false)) := by show _ = _; rw [HF.out R rfl, if_pos c0]
    clear hX HG
    go_enter Try.func17, Try.ntmps17
    go_upto_region 1 with fail
    clear hAe
    go_wp2_with fail
    go_ret3
    exact ⟨by rw [HV.out]; rfl, hw⟩
  have HF2 : Hid (∀ r, r = R → r = if n < a then (1, n, true) else if n < a + b then (2, n - a, true) else if n < a + b + c then (3, n - a - b, true) else if n < a + b + c + d then (4, n - a - b - c, true) else (0, 0, false)) := fun r h => by rw [HF.out r h, if_neg c0]
  clear HF hR
  go_enter Try.func17, Try.ntmps17
  go_upto_region 1 with fail
  clear hAe
  go_wp2_with (first
    | (refine ld_blk rfl rfl hX rfl _ Try.underlying24 rfl info_pn ?_)
    | (go_at_call 22; refine HG.mono ?_; rintro e W ⟨rfl, b1⟩))
  have hwW := ab_trans hw b1
  clear hX HG hw b1
  go_loopw [7, 15] (fun x i wr => wr = W ∧ ((i = .int .i64 0 ∧ x = .int .i64 n) ∨ (i = .int .i64 1 ∧ x = .int .i64 n) ∨ (i = .int .i64 2 ∧ x = .int .i64 (n - a) ∧ ¬ n < a) ∨ (i = .int .i64 3 ∧ x = .int .i64 (n - a - b) ∧ ¬ n < a ∧ ¬ n < a + b) ∨ (i = .int .i64 4 ∧ x = .int .i64 (n - a - b - c) ∧ ¬ n < a ∧ ¬ n < a + b ∧ ¬ n < a + b + c) ∨ (i = .int .i64 5 ∧ ¬ n < a ∧ ¬ n < a + b ∧ ¬ n < a + b + c ∧ ¬ n < a + b + c + d))) (fun _ i _ => 5 - (intOf i).toNat)
  case atStart => exact ⟨rfl, .inl ⟨rfl, rfl⟩⟩
  case round =>
    obtain ⟨rfl, h⟩ := hrel
    rcases h with ⟨rfl, rfl⟩ | ⟨rfl, rfl⟩ | ⟨rfl, rfl, g1⟩ | ⟨rfl, rfl, g1, g2⟩ | ⟨rfl, rfl, g1, g2, g3⟩ | ⟨rfl, g1, g2, g3, g4⟩
    · go_wp2_with (refine ix_five (k := 0) rfl rfl rfl rfl rfl ?_)
      go_roundw
      case rel => exact ⟨trivial, .inr (.inl ⟨rfl, by go_num⟩)⟩
      case measure => simp [intOf]
    · by_cases k : n < a
      · have HV : Hid (R = (1, n, true)) := by show _ = _; rw [HF2.out R rfl, if_pos k]
        go_wp2_with (refine ix_five (k := 1) rfl rfl rfl rfl rfl ?_)
        go_ret3
        exact ⟨by rw [HV.out]; rfl, hwW⟩
      · go_wp2_with (refine ix_five (k := 1) rfl rfl rfl rfl rfl ?_)
        go_roundw
        case rel => exact ⟨trivial, .inr (.inr (.inl ⟨rfl, by go_num, k⟩))⟩
        case measure => simp [intOf]
    · by_cases k : n < a + b
      · have HV : Hid (R = (2, n - a, true)) := by show _ = _; rw [HF2.out R rfl, if_neg g1, if_pos k]
        have k' : n - a < b := by omega
        go_wp2_with (refine ix_five (k := 2) rfl rfl rfl rfl rfl ?_)
        go_ret3
        exact ⟨by rw [HV.out]; rfl, hwW⟩
      · have k' : ¬ n - a < b := by omega
        go_wp2_with (refine ix_five (k := 2) rfl rfl rfl rfl rfl ?_)
        go_roundw
        case rel => exact ⟨trivial, .inr (.inr (.inr (.inl ⟨rfl, by go_num, g1, k⟩)))⟩
        case measure => simp [intOf]
    · by_cases k : n < a + b + c
      · have HV : Hid (R = (3, n - a - b, true)) := by show _ = _; rw [HF2.out R rfl, if_neg g1, if_neg g2, if_pos k]
        have k' : n - a - b < c := by omega
        go_wp2_with (refine ix_five (k := 3) rfl rfl rfl rfl rfl ?_)
        go_ret3
        exact ⟨by rw [HV.out]; rfl, hwW⟩
      · have k' : ¬ n - a - b < c := by omega
        go_wp2_with (refine ix_five (k := 3) rfl rfl rfl rfl rfl ?_)
        go_roundw
        case rel => exact ⟨trivial, .inr (.inr (.inr (.inr (.inl ⟨rfl, by go_num, g1, g2, k⟩))))⟩
        case measure => simp [intOf]
    · by_cases k : n < a + b + c + d
      · have HV : Hid (R = (4, n - a - b - c, true)) := by show _ = _; rw [HF2.out R rfl, if_neg g1, if_neg g2, if_neg g3, if_pos k]
        have k' : n - a - b - c < d := by omega
        go_wp2_with (refine ix_five (k := 4) rfl rfl rfl rfl rfl ?_)
        go_ret3
        exact ⟨by rw [HV.out]; rfl, hwW⟩
      · have k' : ¬ n - a - b - c < d := by omega
        go_wp2_with (refine ix_five (k := 4) rfl rfl rfl rfl rfl ?_)
        go_roundw
        case rel => exact ⟨trivial, .inr (.inr (.inr (.inr (.inr ⟨rfl, g1, g2, g3, k⟩))))⟩
        case measure => simp [intOf]
    · have HV : Hid (R = (0, 0, false)) := by show _ = _; rw [HF2.out R rfl, if_neg g1, if_neg g2, if_neg g3, if_neg g4]
      go_wp2_with fail
      go_ret3
      exact ⟨by rw [HV.out]; rfl, hwW⟩
section
variable {ops : Array Oper} {rest : List Oper} {o : Oper} {a : Act} {w : World} {Q : Exit → Act → World → Prop}
/-- The first ones of five numbers. -/
theorem sl_five (hw : Region.wanted o (yielded ops a.tmps) = true) {x y : Operand} (ho : o.op = .slice 49 x none (some y) none) {b : Nat} (hx : a.eval x = .pointer (some ⟨b, 0, none⟩)) {k : Nat} (hy : a.eval y = .int .i64 (k : Int)) (hk : k ≤ 5)
    (h : wpList Try.prog ops Q rest (a.put o.dst (.slice (some ⟨b, 0, none⟩) k 5)) w) : wpList Try.prog ops Q (o :: rest) a w := by
  refine valS hw _ ?_ h
  have hl : Try.prog.arrayLen 49 = 5 := by kernel_rfl
  unfold execOp
  simp only [ho, hx, hy, Option.map_some, Option.map_none, Sem.run_bind]
  have hz : (sizeOf (Try.prog.elem 49)).run Try.prog w = .ok 1 w := by kernel_rfl
  rw [run_sliceAt_array_h w 49 ⟨b, 0, none⟩ (by kernel_rfl) _ (k : Int) (by omega) (by rw [hl]; omega), hz]
  simp [slicedAt, hl, Addr.add, Result.andThen_ok, Int.toNat_natCast, Sem.run_pure]
end
/-- A role's first node, and how many it has. -/
def spF (a b c d r : Int) : Int × Int := if r = 1 then (0, a) else if r = 2 then (a, b) else if r = 3 then (a + b, c) else if r = 4 then (a + b + c, d) else (0, 0)
abbrev spV (x : Int × Int) : Value := .tuple #[.int .i64 x.1, .int .i64 x.2]
set_option maxHeartbeats 4000000 in
theorem pspan_any (p : Pn) (r : Int) (w : World) (hv : Is w p.v p.l) :
    Calls Try.prog 24 #[pnV p, .int .i64 r] w fun e w' => e = .returned (spV (spF (pnS p) (pnT p) (pnK p) (pnI p) r)) ∧ Below w.heap.size w w' := by
  obtain ⟨A, hAe, hX, hw⟩ := blk1 w (pnC p) 24
  have HG := pcount_any p A (hv.keep hw)
  obtain ⟨hb1, hb2, hb3, hb4⟩ := n_bd p
  generalize pnS p = a at *
  generalize pnT p = b at *
  generalize pnK p = c at *
  generalize pnI p = d at *
  clear hv
  by_cases c0 : r < 1
  · have HV : Hid (spF a b c d r = (0, 0)) := by show _ = _; unfold spF; rw [if_neg (by omega), if_neg (by omega), if_neg (by omega), if_neg (by omega)]
    clear hX HG
    go_enter Try.func24, Try.ntmps24
    go_upto_region 1 with fail
    clear hAe
    go_wp2_with fail
    go_ret2
    exact ⟨by rw [HV.out]; rfl, hw⟩
  by_cases c4 : 4 < r
  · have HV : Hid (spF a b c d r = (0, 0)) := by show _ = _; unfold spF; rw [if_neg (by omega), if_neg (by omega), if_neg (by omega), if_neg (by omega)]
    clear hX HG
    go_enter Try.func24, Try.ntmps24
    go_upto_region 1 with fail
    clear hAe
    go_wp2_with fail
    go_ret2
    exact ⟨by rw [HV.out]; rfl, hw⟩
  have hr4 : r = 1 ∨ r = 2 ∨ r = 3 ∨ r = 4 := by omega
  clear c0 c4
  rcases hr4 with rfl | rfl | rfl | rfl
  · have HV : Hid (spF a b c d 1 = (0, a)) := by show _ = _; unfold spF; rw [if_pos rfl]
    go_enter Try.func24, Try.ntmps24
    go_upto_region 1 with fail
    clear hAe
    go_upto_region 4 with (first
      | (refine ld_blk rfl rfl hX rfl _ Try.underlying24 rfl info_pn ?_)
      | (go_at_call 22; refine HG.mono ?_; rintro e W ⟨rfl, b1⟩)
      | (refine al_blk rfl rfl #[.int .i64 0, .int .i64 0, .int .i64 0, .int .i64 0, .int .i64 0] (by kernel_rfl) ?_; intro V eV hZ bV; clear eV)
      | (refine st_blk rfl rfl hZ rfl rfl info_five rfl (by simp [Value.oneCell']) ?_; intro V2 hZ2 C2))
    have bV2 := ab_chg (ab_trans (ab_trans hw b1) bV) C2 (by have := b1.size; have := hw.size; omega)
    have y0 : V2.cell? ⟨W.heap.size, 0, none⟩ = some (.int .i64 0) := hZ2.at rfl
    have y1 : V2.cell? ⟨W.heap.size, 1, none⟩ = some (.int .i64 a) := hZ2.at rfl
    have y2 : V2.cell? ⟨W.heap.size, 2, none⟩ = some (.int .i64 b) := hZ2.at rfl
    have y3 : V2.cell? ⟨W.heap.size, 3, none⟩ = some (.int .i64 c) := hZ2.at rfl
    have y4 : V2.cell? ⟨W.heap.size, 4, none⟩ = some (.int .i64 d) := hZ2.at rfl
    clear hX HG hw b1 bV C2 hZ
    go_wp2_with (refine sl_five (k := 1) rfl rfl rfl rfl (by omega) ?_)
    go_loopw [7, 21] (fun x i wr => wr = V2 ∧ ((i = .int .i64 0 ∧ x = .int .i64 (0)) ∨ (i = .int .i64 1 ∧ x = .int .i64 (0)))) (fun _ i _ => 1 - (intOf i).toNat)
    case atStart => exact ⟨rfl, .inl ⟨rfl, rfl⟩⟩
    case round =>
      obtain ⟨rfl, h⟩ := hrel
      rcases h with ⟨rfl, rfl⟩ | ⟨rfl, rfl⟩
      · go_wp2_with fail
        go_roundw
        case rel => exact ⟨trivial, .inr (⟨rfl, by go_num⟩)⟩
        case measure => simp [intOf]
      · go_upto_region 10 with fail
        go_quiet (fail)
        go_wp2_with fail
        go_ret2
        exact ⟨by rw [HV.out]; rfl, ab_drewN bV2 _⟩
  · have HV : Hid (spF a b c d 2 = (a, b)) := by show _ = _; unfold spF; rw [if_neg (by omega)]; rw [if_pos rfl]
    go_enter Try.func24, Try.ntmps24
    go_upto_region 1 with fail
    clear hAe
    go_upto_region 4 with (first
      | (refine ld_blk rfl rfl hX rfl _ Try.underlying24 rfl info_pn ?_)
      | (go_at_call 22; refine HG.mono ?_; rintro e W ⟨rfl, b1⟩)
      | (refine al_blk rfl rfl #[.int .i64 0, .int .i64 0, .int .i64 0, .int .i64 0, .int .i64 0] (by kernel_rfl) ?_; intro V eV hZ bV; clear eV)
      | (refine st_blk rfl rfl hZ rfl rfl info_five rfl (by simp [Value.oneCell']) ?_; intro V2 hZ2 C2))
    have bV2 := ab_chg (ab_trans (ab_trans hw b1) bV) C2 (by have := b1.size; have := hw.size; omega)
    have y0 : V2.cell? ⟨W.heap.size, 0, none⟩ = some (.int .i64 0) := hZ2.at rfl
    have y1 : V2.cell? ⟨W.heap.size, 1, none⟩ = some (.int .i64 a) := hZ2.at rfl
    have y2 : V2.cell? ⟨W.heap.size, 2, none⟩ = some (.int .i64 b) := hZ2.at rfl
    have y3 : V2.cell? ⟨W.heap.size, 3, none⟩ = some (.int .i64 c) := hZ2.at rfl
    have y4 : V2.cell? ⟨W.heap.size, 4, none⟩ = some (.int .i64 d) := hZ2.at rfl
    clear hX HG hw b1 bV C2 hZ
    go_wp2_with (refine sl_five (k := 2) rfl rfl rfl rfl (by omega) ?_)
    go_loopw [7, 21] (fun x i wr => wr = V2 ∧ ((i = .int .i64 0 ∧ x = .int .i64 (0)) ∨ (i = .int .i64 1 ∧ x = .int .i64 (0)) ∨ (i = .int .i64 2 ∧ x = .int .i64 (a)))) (fun _ i _ => 2 - (intOf i).toNat)
    case atStart => exact ⟨rfl, .inl ⟨rfl, rfl⟩⟩
    case round =>
      obtain ⟨rfl, h⟩ := hrel
      rcases h with ⟨rfl, rfl⟩ | ⟨rfl, rfl⟩ | ⟨rfl, rfl⟩
      · go_wp2_with fail
        go_roundw
        case rel => exact ⟨trivial, .inr (.inl ⟨rfl, by go_num⟩)⟩
        case measure => simp [intOf]
      · go_wp2_with fail
        go_roundw
        case rel => exact ⟨trivial, .inr (.inr (⟨rfl, by go_num⟩))⟩
        case measure => simp [intOf]
      · go_upto_region 10 with fail
        go_quiet (fail)
        go_wp2_with fail
        go_ret2
        exact ⟨by rw [HV.out]; rfl, ab_drewN bV2 _⟩
  · have HV : Hid (spF a b c d 3 = (a + b, c)) := by show _ = _; unfold spF; rw [if_neg (by omega)]; rw [if_neg (by omega)]; rw [if_pos rfl]
    go_enter Try.func24, Try.ntmps24
    go_upto_region 1 with fail
    clear hAe
    go_upto_region 4 with (first
      | (refine ld_blk rfl rfl hX rfl _ Try.underlying24 rfl info_pn ?_)
      | (go_at_call 22; refine HG.mono ?_; rintro e W ⟨rfl, b1⟩)
      | (refine al_blk rfl rfl #[.int .i64 0, .int .i64 0, .int .i64 0, .int .i64 0, .int .i64 0] (by kernel_rfl) ?_; intro V eV hZ bV; clear eV)
      | (refine st_blk rfl rfl hZ rfl rfl info_five rfl (by simp [Value.oneCell']) ?_; intro V2 hZ2 C2))
    have bV2 := ab_chg (ab_trans (ab_trans hw b1) bV) C2 (by have := b1.size; have := hw.size; omega)
    have y0 : V2.cell? ⟨W.heap.size, 0, none⟩ = some (.int .i64 0) := hZ2.at rfl
    have y1 : V2.cell? ⟨W.heap.size, 1, none⟩ = some (.int .i64 a) := hZ2.at rfl
    have y2 : V2.cell? ⟨W.heap.size, 2, none⟩ = some (.int .i64 b) := hZ2.at rfl
    have y3 : V2.cell? ⟨W.heap.size, 3, none⟩ = some (.int .i64 c) := hZ2.at rfl
    have y4 : V2.cell? ⟨W.heap.size, 4, none⟩ = some (.int .i64 d) := hZ2.at rfl
    clear hX HG hw b1 bV C2 hZ
    go_wp2_with (refine sl_five (k := 3) rfl rfl rfl rfl (by omega) ?_)
    go_loopw [7, 21] (fun x i wr => wr = V2 ∧ ((i = .int .i64 0 ∧ x = .int .i64 (0)) ∨ (i = .int .i64 1 ∧ x = .int .i64 (0)) ∨ (i = .int .i64 2 ∧ x = .int .i64 (a)) ∨ (i = .int .i64 3 ∧ x = .int .i64 (a + b)))) (fun _ i _ => 3 - (intOf i).toNat)
    case atStart => exact ⟨rfl, .inl ⟨rfl, rfl⟩⟩
    case round =>
      obtain ⟨rfl, h⟩ := hrel
      rcases h with ⟨rfl, rfl⟩ | ⟨rfl, rfl⟩ | ⟨rfl, rfl⟩ | ⟨rfl, rfl⟩
      · go_wp2_with fail
        go_roundw
        case rel => exact ⟨trivial, .inr (.inl ⟨rfl, by go_num⟩)⟩
        case measure => simp [intOf]
      · go_wp2_with fail
        go_roundw
        case rel => exact ⟨trivial, .inr (.inr (.inl ⟨rfl, by go_num⟩))⟩
        case measure => simp [intOf]
      · go_wp2_with fail
        go_roundw
        case rel => exact ⟨trivial, .inr (.inr (.inr (⟨rfl, by go_num⟩)))⟩
        case measure => simp [intOf]
      · go_upto_region 10 with fail
        go_quiet (fail)
        go_wp2_with fail
        go_ret2
        exact ⟨by rw [HV.out]; rfl, ab_drewN bV2 _⟩
  · have HV : Hid (spF a b c d 4 = (a + b + c, d)) := by show _ = _; unfold spF; rw [if_neg (by omega)]; rw [if_neg (by omega)]; rw [if_neg (by omega)]; rw [if_pos rfl]
    go_enter Try.func24, Try.ntmps24
    go_upto_region 1 with fail
    clear hAe
    go_upto_region 4 with (first
      | (refine ld_blk rfl rfl hX rfl _ Try.underlying24 rfl info_pn ?_)
      | (go_at_call 22; refine HG.mono ?_; rintro e W ⟨rfl, b1⟩)
      | (refine al_blk rfl rfl #[.int .i64 0, .int .i64 0, .int .i64 0, .int .i64 0, .int .i64 0] (by kernel_rfl) ?_; intro V eV hZ bV; clear eV)
      | (refine st_blk rfl rfl hZ rfl rfl info_five rfl (by simp [Value.oneCell']) ?_; intro V2 hZ2 C2))
    have bV2 := ab_chg (ab_trans (ab_trans hw b1) bV) C2 (by have := b1.size; have := hw.size; omega)
    have y0 : V2.cell? ⟨W.heap.size, 0, none⟩ = some (.int .i64 0) := hZ2.at rfl
    have y1 : V2.cell? ⟨W.heap.size, 1, none⟩ = some (.int .i64 a) := hZ2.at rfl
    have y2 : V2.cell? ⟨W.heap.size, 2, none⟩ = some (.int .i64 b) := hZ2.at rfl
    have y3 : V2.cell? ⟨W.heap.size, 3, none⟩ = some (.int .i64 c) := hZ2.at rfl
    have y4 : V2.cell? ⟨W.heap.size, 4, none⟩ = some (.int .i64 d) := hZ2.at rfl
    clear hX HG hw b1 bV C2 hZ
    go_wp2_with (refine sl_five (k := 4) rfl rfl rfl rfl (by omega) ?_)
    go_loopw [7, 21] (fun x i wr => wr = V2 ∧ ((i = .int .i64 0 ∧ x = .int .i64 (0)) ∨ (i = .int .i64 1 ∧ x = .int .i64 (0)) ∨ (i = .int .i64 2 ∧ x = .int .i64 (a)) ∨ (i = .int .i64 3 ∧ x = .int .i64 (a + b)) ∨ (i = .int .i64 4 ∧ x = .int .i64 (a + b + c)))) (fun _ i _ => 4 - (intOf i).toNat)
    case atStart => exact ⟨rfl, .inl ⟨rfl, rfl⟩⟩
    case round =>
      obtain ⟨rfl, h⟩ := hrel
      rcases h with ⟨rfl, rfl⟩ | ⟨rfl, rfl⟩ | ⟨rfl, rfl⟩ | ⟨rfl, rfl⟩ | ⟨rfl, rfl⟩
      · go_wp2_with fail
        go_roundw
        case rel => exact ⟨trivial, .inr (.inl ⟨rfl, by go_num⟩)⟩
        case measure => simp [intOf]
      · go_wp2_with fail
        go_roundw
        case rel => exact ⟨trivial, .inr (.inr (.inl ⟨rfl, by go_num⟩))⟩
        case measure => simp [intOf]
      · go_wp2_with fail
        go_roundw
        case rel => exact ⟨trivial, .inr (.inr (.inr (.inl ⟨rfl, by go_num⟩)))⟩
        case measure => simp [intOf]
      · go_wp2_with fail
        go_roundw
        case rel => exact ⟨trivial, .inr (.inr (.inr (.inr (⟨rfl, by go_num⟩))))⟩
        case measure => simp [intOf]
      · go_upto_region 10 with fail
        go_quiet (fail)
        go_wp2_with fail
        go_ret2
        exact ⟨by rw [HV.out]; rfl, ab_drewN bV2 _⟩
end Go.Proofs.Ytnooedipanhkjaa
