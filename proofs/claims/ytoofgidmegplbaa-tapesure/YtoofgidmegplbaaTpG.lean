/-
  estuarylaw06.alive.
-/
import Derived.Test.YtoofgidmegplbaaTpF
namespace Go.Proofs.Ytoofgidmegplbaa
open Go.RowKit
set_option linter.unusedVariables false
/-- A constant text turned into bytes: the new row gets a mark behind its last cell. -/
theorem cv_t {ops : Array Oper} {rest : List Oper} {o : Oper} {a : Act} {w : World} {Q : Exit → Act → World → Prop} (hw : Region.wanted o (yielded ops a.tmps) = true) {x : Operand} (ho : o.op = .convert 30 30 x)
    {base g n c : Nat} {m : List Nat} (hx : a.eval x = .slice (some ⟨g, 0, none⟩) n c) (hown : w.ownsRow base 5 1 (.slice (some ⟨g, 0, none⟩) n c) n (bys m))
    (h : ∀ W', Sl W' (.slice (some ⟨g, 0, none⟩) n c) m → Chg g w W' → wpList Try.prog ops Q rest (a.put o.dst (.slice (some ⟨g, 0, none⟩) n c)) W') : wpList Try.prog ops Q (o :: rest) a w := by
  obtain ⟨hl, hs⟩ := own_sl hown
  rcases hown.2 with ⟨h2, _⟩ | ⟨g', cap', cur, e, hb, hg, hnc, hcm, hcs, ht⟩
  · cases h2
  · cases e
    have hsh : w.shape? g = some (5, cur.size) := by unfold World.shape?; rw [hg]
    have hrun : (convert 30 30 (.slice (some ⟨g, 0, none⟩) n c)).run Try.prog w = .ok (.slice (some ⟨g, 0, none⟩) n c) (w.freeze ⟨g, cur.size, none⟩ 1) := by
      simp [convert, run_underlying Try.underlying30, run_underlying Try.underlying5, markStringish, hsh]
    have hf : (w.freeze ⟨g, cur.size, none⟩ 1).heap[g]? = some (.cells cur 5 (cur.size, cur.size + 1)) := by
      unfold World.freeze
      rw [if_neg (by decide)]
      simp [Array.getElem?_modify, hg]
    have hchg : Chg g w (w.freeze ⟨g, cur.size, none⟩ 1) := by
      unfold World.freeze
      rw [if_neg (by decide)]
      exact ⟨rfl, rfl, rfl, by simp, fun k hk => by simp [Array.getElem?_modify, Ne.symm hk]⟩
    have hsl : Sl (w.freeze ⟨g, cur.size, none⟩ 1) (.slice (some ⟨g, 0, none⟩) n c) m := by
      obtain ⟨q, cap, e, h1, h2, h3⟩ := hs
      refine ⟨q, cap, e, h1, h2, fun h0 => ?_⟩
      obtain ⟨g2, off, rfl, hg2, hr⟩ := h3 h0
      cases e
      refine ⟨g, 0, rfl, by rw [hchg.size]; exact hg2, fun j y hy => ?_⟩
      rw [cell_of_row _ g (0 + j) cur 5 _ hf, ← hr j y hy, cell_of_row w g (0 + j) cur 5 _ hg]
    unfold wpList
    rw [if_pos hw]
    left
    unfold Oper.wp execOp
    simp only [ho, Sem.run_bind, hx, hrun, Result.andThen_ok]
    exact h _ hsl hchg
theorem stb_at {w w' : World} {base b n c : Nat} {v : Value} {S : TS} {m : List Nat} (hT : Tp w base b v S) (h : Sl w' (.slice (some ⟨w.heap.size, 0, none⟩) n c) m) : Stb b w' v (.slice (some ⟨w.heap.size, 0, none⟩) n c) m :=
  stb_far h fun g hg => by
    have hg' : w.heap.size = g := by simpa [Value.ownBlock] using hg
    have h2 := hT.blk.lt
    refine ⟨by omega, fun e => ?_⟩
    have := (hT.own.lt g e).2
    omega
theorem below_mark {w w1 w2 : World} (h : Below w.heap.size w w1) (k : Chg w.heap.size w1 w2) : Below w.heap.size w w2 := h.trans (k.below (Nat.le_refl _))
theorem str_abc : strB [97, 98, 99] = ⟨#[97, 98, 99]⟩ := by decide +kernel
set_option maxHeartbeats 1000000 in
theorem alive6_any (w : World) : Calls Try.prog 9 #[] w fun e w' => e = .returned (.bool true) ∧ Below w.heap.size w w' := by
  have HX : Hid (strB [97, 98, 99] = ⟨#[97, 98, 99]⟩) := str_abc
  go_enter Try.func9, Try.ntmps9
  go_upto_region 2 with (go_at_call 11; refine (new_any _).mono ?_; rintro e W1 ⟨rfl, h1, b1⟩)
  go_wp2_with (first
    | (refine bs_by rfl rfl [97] (vs := #[(0, .int .u8 97)]) (by simp only [List.map_toArray, List.map_cons, List.map_nil]; rfl) (bsb1 97 _) rfl (by decide) ?_; intro W2 n2 b2 z2)
    | (refine cv_t rfl rfl rfl n2 ?_; intro X2 s2 k2; have c2 := below_mark b2 k2; have h2 := h1.keep c2; have t2 := stb_at h1 s2)
    | (refine bs_by rfl rfl [98] (vs := #[(0, .int .u8 98)]) (by simp only [List.map_toArray, List.map_cons, List.map_nil]; rfl) (bsb1 98 _) rfl (by decide) ?_; intro W3 n3 b3 z3)
    | (refine cv_t rfl rfl rfl n3 ?_; intro X3 s3 k3; have c3 := below_mark b3 k3; have h3 := h2.keep c3; have t3 := stb_at h2 s3; have t2' := t2.keep c3)
    | (refine bs_ls rfl rfl [_, _] [[97], [98]] (by simp only [List.map_toArray, List.map_cons, List.map_nil]; rfl) (bsl2 _ _ _ _ _ _ _) rfl (by decide) rfl (each2 t2'.sl t3.sl) ?_; intro W4 ls4 b4 k4; have h4 := h3.keep b4; have st4 := stl_new (n := 2) [_, _] [[97], [98]] h3 b4 k4 rfl (by decide) rfl (eachS2 t2' t3)))
  refine (append_up _ _ _ _ _ _ _ _ _ _ h4 (by omega) st4 (by decide)).mono ?_
  rintro e W5 ⟨rfl, v5, h5, m5⟩
  have e5 := (h1.below (((mv_below _ c2).trans (mv_below _ c3)).trans ((mv_below _ b4).trans m5)))
  clear m5 st4 ls4 k4 b4 t2' t3 t2 h2 h3 h4 s2 s3 k2 k3 c2 c3 n2 n3 b2 b3 z2 z3 h1
  go_wp2_with fail
  refine (sync_up _ _ _ _ _ _ _ h5 (by omega)).mono ?_
  rintro e W6 ⟨rfl, h6, m6⟩
  have e6 := e5.trans (h5.below m6)
  clear m6 h5 e5
  go_wp2_with (first
    | (refine bs_by rfl rfl [99, 100] (vs := #[(0, .int .u8 99), (1, .int .u8 100)]) (by simp only [List.map_toArray, List.map_cons, List.map_nil]; rfl) (bsb2 99 100 _) rfl (by decide) ?_; intro W7 n7 b7 z7)
    | (refine cv_t rfl rfl rfl n7 ?_; intro X7 s7 k7; have c7 := below_mark b7 k7; have h7 := h6.keep c7; have t7 := stb_at h6 s7)
    | (refine bs_ls rfl rfl [_] [[99, 100]] (by simp only [List.map_toArray, List.map_cons, List.map_nil]; rfl) (bsl1 _ _ _ _) rfl (by decide) rfl (each1 t7.sl) ?_; intro W8 ls8 b8 k8; have h8 := h7.keep b8; have st8 := stl_new (n := 1) [_] [[99, 100]] h7 b8 k8 rfl (by decide) rfl (eachS1 t7)))
  refine (append_up _ _ _ _ _ _ _ _ _ _ h8 (by omega) st8 (by decide)).mono ?_
  rintro e W9 ⟨rfl, v9, h9, m9⟩
  have e9 := e6.trans (h6.below ((mv_below _ c7).trans ((mv_below _ b8).trans m9)))
  clear m9 st8 ls8 k8 b8 t7 h7 h8 s7 k7 c7 n7 b7 z7 h6 e6
  go_wp2_with fail
  refine (sure_any _ _ _ h9.oct.c1).mono ?_
  rintro e W10 ⟨rfl, hW10⟩
  subst W10
  go_wp2_with fail
  refine (crash_up _ _ _ _ 1 3 _ h9 (by omega) (by decide)).mono ?_
  rintro e W11 ⟨rfl, v11, h11, m11⟩
  have e11 := e9.trans (h9.below m11)
  have h11' : Tp W11 w.heap.size w.heap.size v11 (up [97, 98, 99] 3 3) := h11
  clear m11 h9 e9 h11
  go_wp2_with fail
  refine (tread_any _ _ _ _ _ h11').mono ?_
  rintro e W12 ⟨v12, rfl, O12, b12⟩
  have hc := sl_str O12.sl
  rw [HX.out] at hc
  have h12 := h11'.keep b12
  have e12 := e11.trans (b12.mono (Nat.le_trans b1.size e11.size))
  go_wp2_with fail
  refine (sure_any _ _ _ h12.oct.c1).mono ?_
  rintro e W13 ⟨rfl, hW13⟩
  subst W13
  go_wp2_with fail
  refine (steps_any _ _ _ h12.oct.c2).mono ?_
  rintro e W13 ⟨rfl, hW13⟩
  subst W13
  go_wp2_with fail
  go_ret
  exact ⟨rfl, b1.trans e12⟩
end Go.Proofs.Ytoofgidmegplbaa
