/-
  post.Deliver, post.Drop.
-/
import Derived.Test.YteililgfjnoabaaPoD
import Derived.Test.YteililgfjnoabaaSbT
namespace Go.Proofs.Yteililgfjnoabaa
open Go.RowKit
set_option linter.unusedVariables false
set_option maxRecDepth 100000

theorem mv_far {w w' : World} {b g : Nat} {v v' : Value} (m : Mv b w w' v v') (hg : g < w.heap.size) (h1 : g ≠ b) (h2 : v.ownBlock ≠ some g) : w'.heap[g]? = w.heap[g]? := m.other g hg h1 h2
theorem Pt.nn {w : World} {base b : Nat} {v : Value} {S : PS} (h : Pt w base b v S) (h0 : 0 < S.l.length) : v ≠ .slice none 0 0 := by
  intro e
  rcases h.own.2 with ⟨_, h2⟩ | ⟨g', cap', cur, e2, _⟩
  · omega
  · rw [e] at e2; cases e2
/-- Where message i lies. -/
theorem Pt.at {w : World} {base b i : Nat} {v : Value} {S : PS} {m : List Nat} (h : Pt w base b v S) (hm : S.l[i]? = some m) : ∃ g cap, v = .slice (some ⟨g, 0, none⟩) S.l.length cap ∧ S.l.length ≤ cap ∧ cap ≤ 9223372036854775807 ∧ g < w.heap.size ∧ w.cell? ⟨g, i, none⟩ = some (.string (strB m)) := by
  have hi : i < S.l.length := (List.getElem?_eq_some_iff.1 hm).1
  obtain ⟨g, cap, e, hb, hg, hc, hmx, hr⟩ := own_cells h.own (h.nn (by omega))
  exact ⟨g, cap, e, hc, hmx, hg, hr i _ (by rw [txv_at, hm]; rfl)⟩
set_option maxHeartbeats 1000000 in
theorem deliver_yes (base b i : Nat) (v : Value) (S : PS) (m : List Nat) (w : World) (h : Pt w base b v S) (hm : S.l[i]? = some m) :
    Calls Try.prog 18 #[pptr b, .int .i64 ((i : Nat) : Int)] w fun e w' => ∃ x v', e = .returned (.tuple #[x, .bool true]) ∧ Mb w' w.heap.size x m ∧ Pt w' base b v' ⟨S.l.eraseIdx i, S.lost, inc S.taken⟩ ∧ Mv b w w' v v' := by
  have hi : i < S.l.length := (List.getElem?_eq_some_iff.1 hm).1
  have hbm := h.byt m (List.mem_of_getElem? hm)
  obtain ⟨g, cap, e, hc, hmx, hg, hcell⟩ := h.at hm
  have c2 := h.tri.c2
  rw [e] at c2
  have hii : (i : Int) < (S.l.length : Int) := by omega
  generalize hn : S.l.length = n at *
  go_enter Try.func18, Try.ntmps18
  go_upto_region 4 with (first
    | (go_at_call 25; refine (phas_yes b i _ n _ _ c2 hi).mono ?_; rintro e W1 ⟨rfl, hW1⟩; subst W1)
    | (refine sbm_t rfl rfl rfl hbm.1 hbm.2 ?_; intro x W2 hM2 b2 hx2))
  have h2 := h.keep b2
  clear c2 hcell
  go_upto_region 5 with (go_at_call 26; refine (premove_any base b i v S _ h2 (by omega)).mono ?_; rintro e W3 ⟨rfl, v3, h3, m3⟩)
  have c1 : W3.cell? ⟨b, 1, none⟩ = some (.int .i64 S.taken) := h3.tri.c1
  have f1 := h3.frozen 1
  go_wp2_with (go_at_call 27; refine (ptake_any b _ _ c1 f1).mono ?_; rintro e W4 ⟨rfl, hW4⟩; subst W4)
  go_ret2
  have k4 := chg_set W3 b 1 (.int .i64 (inc S.taken))
  have h4 := h3.chg (S' := ⟨S.l.eraseIdx i, S.lost, inc S.taken⟩) (h3.blk.set 1 (.int .i64 (inc S.taken))) k4 rfl h.bl (inc_i64 _)
  have m24 := m3.trans (mv_chg v3 k4)
  refine ⟨x, v3, rfl, hM2.at fun g2 hg2 => ?_, h4, (mv_below v b2).trans m24⟩
  have e2 : w.heap.size = g2 := by rw [hx2] at hg2; simpa using hg2
  subst e2
  have hb := h.blk.lt
  exact m24.other _ (hM2.lt _ hx2).2 (by omega) (fun e => by have := (h.own.lt _ e).2; omega)
theorem deliver_no (base b : Nat) (i : Int) (v : Value) (S : PS) (w : World) (h : Pt w base b v S) (hi : ¬ (0 ≤ i ∧ i < (S.l.length : Int))) :
    Calls Try.prog 18 #[pptr b, .int .i64 i] w fun e w' => e = .returned (.tuple #[.slice none 0 0, .bool false]) ∧ w' = w := by
  obtain ⟨q, cap, e, -⟩ := h.form
  have c2 := h.tri.c2
  rw [e] at c2
  go_enter Try.func18, Try.ntmps18
  go_wp2_with (go_at_call 25; refine (phas_no b i _ _ _ _ c2 hi).mono ?_; rintro e W1 ⟨rfl, hW1⟩; subst W1)
  go_ret2
  exact ⟨rfl, rfl⟩
theorem deliver_nil (i : Int) (w : World) : Calls Try.prog 18 #[.pointer none, .int .i64 i] w fun e w' => e = .returned (.tuple #[.slice none 0 0, .bool false]) ∧ w' = w := by
  go_enter Try.func18, Try.ntmps18
  go_wp2_with (go_at_call 25; refine (phas_nil i _).mono ?_; rintro e W1 ⟨rfl, hW1⟩; subst W1)
  go_ret2
  exact ⟨rfl, rfl⟩
set_option maxHeartbeats 1000000 in
theorem drop_yes (base b i : Nat) (v : Value) (S : PS) (w : World) (h : Pt w base b v S) (hi : i < S.l.length) :
    Calls Try.prog 19 #[pptr b, .int .i64 ((i : Nat) : Int)] w fun e w' => e = .returned (.bool true) ∧ ∃ v', Pt w' base b v' ⟨S.l.eraseIdx i, inc S.lost, S.taken⟩ ∧ Mv b w w' v v' := by
  obtain ⟨q, cap, e, -⟩ := h.form
  have c2 := h.tri.c2
  rw [e] at c2
  go_enter Try.func19, Try.ntmps19
  go_upto_region 3 with (go_at_call 25; refine (phas_yes b i _ _ _ _ c2 hi).mono ?_; rintro e W1 ⟨rfl, hW1⟩; subst W1)
  clear c2
  go_upto_region 4 with (go_at_call 26; refine (premove_any base b i v S _ h hi).mono ?_; rintro e W3 ⟨rfl, v3, h3, m3⟩)
  have c0 : W3.cell? ⟨b, 0, none⟩ = some (.int .i64 S.lost) := h3.tri.c0
  have f0 := h3.frozen 0
  go_wp2_with (go_at_call 28; refine (plose_any b _ _ c0 f0).mono ?_; rintro e W4 ⟨rfl, hW4⟩; subst W4)
  go_ret
  have k4 := chg_set W3 b 0 (.int .i64 (inc S.lost))
  have h4 := h3.chg (S' := ⟨S.l.eraseIdx i, inc S.lost, S.taken⟩) (h3.blk.set 0 (.int .i64 (inc S.lost))) k4 rfl (inc_i64 _) h.bt
  exact ⟨rfl, v3, h4, m3.trans (mv_chg v3 k4)⟩
theorem drop_no (base b : Nat) (i : Int) (v : Value) (S : PS) (w : World) (h : Pt w base b v S) (hi : ¬ (0 ≤ i ∧ i < (S.l.length : Int))) :
    Calls Try.prog 19 #[pptr b, .int .i64 i] w fun e w' => e = .returned (.bool false) ∧ w' = w := by
  obtain ⟨q, cap, e, -⟩ := h.form
  have c2 := h.tri.c2
  rw [e] at c2
  go_enter Try.func19, Try.ntmps19
  go_wp2_with (go_at_call 25; refine (phas_no b i _ _ _ _ c2 hi).mono ?_; rintro e W1 ⟨rfl, hW1⟩; subst W1)
  go_ret
  exact ⟨rfl, rfl⟩
theorem drop_nil (i : Int) (w : World) : Calls Try.prog 19 #[.pointer none, .int .i64 i] w fun e w' => e = .returned (.bool false) ∧ w' = w := by
  go_enter Try.func19, Try.ntmps19
  go_wp2_with (go_at_call 25; refine (phas_nil i _).mono ?_; rintro e W1 ⟨rfl, hW1⟩; subst W1)
  go_ret
  exact ⟨rfl, rfl⟩
theorem copy_no (base b : Nat) (i : Int) (v : Value) (S : PS) (w : World) (h : Pt w base b v S) (hi : ¬ (0 ≤ i ∧ i < (S.l.length : Int))) :
    Calls Try.prog 20 #[pptr b, .int .i64 i] w fun e w' => e = .returned (.bool false) ∧ w' = w := by
  obtain ⟨q, cap, e, -⟩ := h.form
  have c2 := h.tri.c2
  rw [e] at c2
  go_enter Try.func20, Try.ntmps20
  go_wp2_with (go_at_call 25; refine (phas_no b i _ _ _ _ c2 hi).mono ?_; rintro e W1 ⟨rfl, hW1⟩; subst W1)
  go_ret
  exact ⟨rfl, rfl⟩
theorem copy_nil (i : Int) (w : World) : Calls Try.prog 20 #[.pointer none, .int .i64 i] w fun e w' => e = .returned (.bool false) ∧ w' = w := by
  go_enter Try.func20, Try.ntmps20
  go_wp2_with (go_at_call 25; refine (phas_nil i _).mono ?_; rintro e W1 ⟨rfl, hW1⟩; subst W1)
  go_ret
  exact ⟨rfl, rfl⟩
end Go.Proofs.Yteililgfjnoabaa
