/-
  post.Copy, post.Send.
-/
import Derived.Test.YteililgfjnoabaaPoE
import Derived.Test.YteililgfjnoabaaFrB
namespace Go.Proofs.Yteililgfjnoabaa
open Go.RowKit
set_option linter.unusedVariables false
set_option maxRecDepth 100000

/-- A post behind one message that is sent; behind several. -/
def put1 (S : PS) (m : List Nat) : PS := if S.l.length < 4096 then { S with l := S.l ++ [m] } else { S with lost := inc S.lost }
def puts (S : PS) (ms : List (List Nat)) : PS := ms.foldl put1 S
theorem puts_snoc (S : PS) (ms : List (List Nat)) (m : List Nat) : puts S (ms ++ [m]) = put1 (puts S ms) m := by simp [puts]
theorem Pt.more {W W' : World} {base b n : Nat} {v v' : Value} {S : PS} {m : List Nat} (h : Pt W base b v S) (hown : W'.ownsRow base 9 1 v' n (txv (S.l ++ [m]))) (hB : Blk W' b (pcs v' S) 54) (hb : Byt m ∧ m.length ≤ 9223372036854775807) (hlt : S.l.length < 4096) : Pt W' base b v' (put1 S m) := by
  have e : n = (S.l ++ [m]).length := by have := hown.1; rw [txv_len, Nat.mul_one] at this; exact this.symm
  subst e
  unfold put1
  rw [if_pos hlt]
  refine ⟨h.ge, hB, hown, by show (S.l ++ [m]).length ≤ _; rw [List.length_append]; simp; omega, h.bl, h.bt, fun l hl => ?_⟩
  rcases List.mem_append.1 hl with hl | hl
  · exact h.byt l hl
  · have : l = m := by simpa using hl
    subst this
    exact hb
theorem Pt.lose {W : World} {base b : Nat} {v : Value} {S : PS} {m : List Nat} (h : Pt W base b v S) (hlt : ¬ S.l.length < 4096) : Pt (W.setCell ⟨b, 0, none⟩ (.int .i64 (inc S.lost))) base b v (put1 S m) := by
  unfold put1
  rw [if_neg hlt]
  exact h.chg (S' := { S with lost := inc S.lost }) (h.blk.set 0 (.int .i64 (inc S.lost))) (chg_set _ _ _ _) rfl (inc_i64 _) h.bt
theorem app_tW {o : Oper} {a : Act} {w : World} {K : Act → World → Prop} {Q : Exit → Act → World → Prop} (base : Nat) (d : Option Tmp) (hd : o.dst = d) {s x : Operand} (ho : o.op = .call { callee := .builtin .append, args := #[s, x], argTypes := #[28, 28] })
    {v vx : Value} {n k : Nat} {ls ms : List (List Nat)} (hs : a.eval s = v) (hown : w.ownsRow base 9 1 v n (txv ls)) (hx : a.eval x = vx) (hsl : Txs w vx ms) (hm : ms.length = k) (h63 : n + k ≤ 8000000000000) (hA : base ≤ w.heap.size)
    (h : ∀ v' w', w'.ownsRow base 9 1 v' (n + k) (txv (ls ++ ms)) → w.grownBy w' v.ownBlock → (v'.ownBlock = v.ownBlock ∨ v'.ownBlock = some w.heap.size) → K (a.put d v') w') : o.wp Try.prog a w K Q := by
  subst hd
  obtain ⟨v', w', hr, h1, h2, h3⟩ := app_runS base o.type hown hsl hm h63 hA
  unfold Oper.wp execOp
  simp only [ho, resolve, invoke, builtin, Sem.run_bind, Sem.run_pure, Result.andThen_ok, List.map_toArray, List.map_cons, List.map_nil, hs, hx, hr]
  exact h v' w' h1 h2 h3
set_option maxHeartbeats 2000000 in
theorem copy_yes (base b i : Nat) (v : Value) (S : PS) (m : List Nat) (w : World) (h : Pt w base b v S) (hm : S.l[i]? = some m) :
    Calls Try.prog 20 #[pptr b, .int .i64 ((i : Nat) : Int)] w fun e w' => e = .returned (.bool true) ∧ ∃ v', Pt w' base b v' (put1 S m) ∧ Mv b w w' v v' := by
  have hi : i < S.l.length := (List.getElem?_eq_some_iff.1 hm).1
  have hbm := h.byt m (List.mem_of_getElem? hm)
  obtain ⟨g, cap, e, hc, hmx, hg, hcell⟩ := h.at hm
  have c2 := h.tri.c2
  rw [e] at c2
  have hii : (i : Int) < (S.l.length : Int) := by omega
  by_cases hlt : S.l.length < 4096
  · go_enter Try.func20, Try.ntmps20
    go_upto_region 4 with (first
      | (go_at_call 25; refine (phas_yes b i _ _ _ _ c2 hi).mono ?_; rintro e W1 ⟨rfl, hW1⟩; subst W1)
      | (go_at_call 24; refine (padmits_yes b _ _ _ _ c2 hlt).mono ?_; rintro e W1 ⟨rfl, hW1⟩; subst W1))
    refine region_L 13 (S := fun w' => Below w.heap.size w w') (by kernel_rfl) ((Below.refl _ _).drew) (fun hHeld => ?_)
    have d2 : ∀ w', Below w.heap.size w w' → w'.cell? ⟨b, 2, none⟩ = some (.slice (some ⟨g, 0, none⟩) S.l.length cap) := fun w' hb => keep_cell hb c2 h.blk.lt
    have dg : ∀ w', Below w.heap.size w w' → w'.cell? ⟨g, i, none⟩ = some (.string (strB m)) := fun w' hb => keep_cell hb hcell hg
    clear c2 hcell
    generalize w.drew = V at *
    refine takeP (i := 0) (some 11) (by rfl) rfl rfl (by kernel_rfl) (by kernel_rfl) (by kernel_rfl) (fun _ _ _ h => h) (by rfl) (fun w => by go_simp; try rfl) hHeld ?_
    go_frame
    refine takeP (i := 1) (some 12) (by rfl) rfl rfl (by kernel_rfl) (by kernel_rfl) (by kernel_rfl) (fun _ _ _ h => h) (by rfl) (fun w => by go_simp; try rfl) hHeld ?_
    go_frame
    refine takeP (i := 2) (some 13) (by rfl) rfl rfl (by kernel_rfl) (by kernel_rfl) (by kernel_rfl) (fun _ _ _ h => h) (by rfl) (fun w => by go_simp; try rfl) hHeld ?_
    go_frame
    refine takeP (i := 3) (some 14) (by rfl) rfl rfl (by kernel_rfl) (by kernel_rfl) (by kernel_rfl) (fun _ _ _ h => h) (by rfl) (fun w => by go_simp; try rfl) hHeld ?_
    go_frame
    refine takeP (i := 5) (some 16) (by rfl) rfl rfl (by kernel_rfl) (by kernel_rfl) (by kernel_rfl) (fun _ _ _ h => h) (by rfl) (fun w => by go_simp; try rfl) hHeld ?_
    go_frame
    refine takeP (i := 6) (some 17) (by rfl) rfl rfl (by kernel_rfl) (by kernel_rfl) (by kernel_rfl) (fun _ _ _ h => h) (by rfl) (fun w => by go_simp; try rfl) hHeld ?_
    go_frame
    refine takeP (i := 7) (some 18) (by rfl) rfl rfl (by kernel_rfl) (by kernel_rfl) (by kernel_rfl) (fun _ _ _ h => h) (by rfl) (fun w => by go_simp; try rfl) hHeld ?_
    go_frame
    refine takeP (i := 9) (some 20) (by rfl) rfl rfl (by kernel_rfl) (by kernel_rfl) (by kernel_rfl) (fun _ _ _ h => h) (by rfl) (fun w => by go_simp; try rfl) hHeld ?_
    go_frame
    refine takeL (i := 4) [13] (some 15) (by rfl) rfl rfl (by kernel_rfl) (by kernel_rfl) (by kernel_rfl) (by kernel_rfl) (fun _ _ _ h => h) (by rfl) (fun w hSw => by (try dsimp only at hSw); (have hcc := d2 _ hSw; go_simp; try rfl)) hHeld ?_
    go_frame
    refine takeL (i := 8) [10, 11, 12, 13] (some 19) (by rfl) rfl rfl (by kernel_rfl) (by kernel_rfl) (by kernel_rfl) (by kernel_rfl) (fun _ _ _ h => h) (by rfl) (fun w hSw => by (try dsimp only at hSw); (have hcc := d2 _ hSw; go_simp; try rfl)) hHeld ?_
    go_frame
    refine takeP (i := 10) (some 21) (by rfl) rfl rfl (by kernel_rfl) (by kernel_rfl) (by kernel_rfl) (fun _ _ _ h => h) (by rfl) (fun w => by go_simp; try rfl) hHeld ?_
    go_frame
    refine takeL (i := 11) [12, 13] (some 22) (by rfl) rfl rfl (by kernel_rfl) (by kernel_rfl) (by kernel_rfl) (by kernel_rfl) (fun _ _ _ h => h) (by rfl) (fun w hSw => by (try dsimp only at hSw); (have hcc := dg _ hSw; go_simp; try rfl)) hHeld ?_
    go_frame
    refine anyL_ready (rs := [12]) (by kernel_rfl) (by simp) (AllL.cons rfl (fun K hK => ?_) AllL.nil)
    rw [if_pos (by rfl)]
    refine st1W (some 23) rfl rfl rfl ?_
    intro x2 W2 own2 b2
    refine hK.out _ _ (ab_trans hHeld b2) (fun hHeld => ?_)
    clear hK K
    try go_frame
    have h2 := h.keep hHeld
    refine anyL_ready (rs := [13]) (by kernel_rfl) (by simp) (AllL.last rfl (by kernel_rfl) (fun K hK => ?_))
    rw [if_pos (by rfl)]
    have own2' : W2.ownsRow base 9 1 (.slice (some ⟨g, 0, none⟩) S.l.length cap) S.l.length (txv S.l) := by have := h2.own; rw [e] at this; exact this
    refine app_tW base (some 24) rfl rfl rfl own2' rfl (txo_of own2).txs rfl (by simp; omega) (Nat.le_of_lt h2.lt) ?_
    intro v5 W5 own5 gr5 at5
    have hap := h2.apart
    rw [e] at hap
    have hB5 := blk_grownT h2.blk gr5 hap
    have d5 := hB5.at (i := 2) rfl
    have f5 := hB5.frozen 2
    obtain ⟨q5, c5, e5⟩ := (txo_of own5).txs.slice
    refine hK.out _ _ ?_
    clear hK K
    rw [e5]
    generalize (S.l ++ [m]).length = N5 at *
    try go_frame
    refine anyL_ready (rs := [14]) (by kernel_rfl) (by simp) (AllL.free rfl (by kernel_rfl) (fun K hK => ?_))
    go_simp
    refine hK.out _ _ ?_
    clear hK K
    try go_frame
    refine anyL_ready (rs := [15]) (by kernel_rfl) (by simp) (AllL.free rfl (by kernel_rfl) (fun K hK => ?_))
    go_simp
    refine hK.out _ _ ?_
    clear hK K
    try go_frame
    refine anyL_ready (rs := [16]) (by kernel_rfl) (by simp) (AllL.free rfl (by kernel_rfl) (fun K hK => ?_))
    go_simp
    refine hK.out _ _ ?_
    clear hK K
    refine anyL_done (by kernel_rfl) ?_
    go_wp2_with fail
    go_ret
    rw [← e5]
    have hap5 := blk_own own5 hB5 (by decide)
    have k6 := chg_set W5 b 2 v5
    refine ⟨rfl, v5, h2.more (own_chgT own5 k6 hap5) (hB5.set 2 v5) hbm hlt, ?_⟩
    rw [e]
    exact (mv_below _ hHeld).trans ((mv_grown gr5 at5).trans (mv_chg v5 k6))
  · have c0 := h.tri.c0
    have f0 := h.frozen 0
    go_enter Try.func20, Try.ntmps20
    go_wp2_with (first
      | (go_at_call 25; refine (phas_yes b i _ _ _ _ c2 hi).mono ?_; rintro e W1 ⟨rfl, hW1⟩; subst W1)
      | (go_at_call 24; refine (padmits_no b _ _ _ _ _ c0 f0 c2 hlt).mono ?_; rintro e W1 ⟨rfl, hW1⟩; subst W1))
    go_ret
    exact ⟨rfl, v, h.lose hlt, mv_chg v (chg_set _ _ _ _)⟩
theorem StL.cell {b n cap k : Nat} {w w' : World} {v v' y : Value} {q : Option Addr} {vs : List Value} {ls : List (List Nat)} (h : StL b w v (.slice q n cap) vs ls) (m : Mv b w w' v v') (hy : vs[k]? = some y) : ∃ g off, q = some ⟨g, off, none⟩ ∧ w'.cell? ⟨g, off + k, none⟩ = some y := by
  have hL := h _ _ m
  obtain ⟨q', cap', g', off', ep', hc', hm', hp', hg', hr'⟩ := hL.open
  have h0 : 0 < ls.length := by have := (List.getElem?_eq_some_iff.1 hy).1; rw [hL.len] at this; omega
  have := hp' h0
  cases ep'
  exact ⟨g', off', this, hr' k y hy⟩
set_option maxHeartbeats 2000000 in
theorem send_any (base b n cap : Nat) (q : Option Addr) (v : Value) (vs : List Value) (ls : List (List Nat)) (S : PS) (w : World) (h : Pt w base b v S) (hL : StL b w v (.slice q n cap) vs ls) (hb : ∀ l ∈ ls, Byt l ∧ l.length ≤ 9223372036854775807) :
    Calls Try.prog 14 #[pptr b, .slice q n cap] w fun e w' => e = .returned (.int .i64 (((puts S ls).l.length : Nat) : Int)) ∧ ∃ v', Pt w' base b v' (puts S ls) ∧ Mv b w w' v v' := by
  have hlen := hL.ls.len
  obtain ⟨hvn, hnc, hcm⟩ : ls.length = n ∧ n ≤ cap ∧ cap ≤ 9223372036854775807 := by
    obtain ⟨q', cap', g', off', ep', hc', hm', -⟩ := hL.ls.open
    cases ep'
    exact ⟨rfl, hc', hm'⟩
  go_enter Try.func14, Try.ntmps14
  go_wp2_with fail
  go_loopw [11] (fun i wr => ∃ (k : Nat) (v' : Value), k ≤ n ∧ i = .int .i64 (k : Int) ∧ Pt wr base b v' (puts S (ls.take k)) ∧ Mv b w wr v v') (fun i _ => n - (intOf i).toNat)
  case atStart => exact ⟨0, v, by omega, rfl, h, Mv.refl _ _ _⟩
  case round =>
    obtain ⟨k, v1, hk, rfl, h1, m1⟩ := hrel
    by_cases c : k = n
    · subst c
      rw [List.take_of_length_le (by omega)] at h1
      obtain ⟨q1, cap1, e1, -⟩ := h1.form
      have c2 := h1.tri.c2
      rw [e1] at c2
      go_wp2_with fail
      go_ret
      exact ⟨rfl, v1, h1, m1⟩
    · obtain ⟨y, hy⟩ : ∃ y, vs[k]? = some y := ⟨vs[k], List.getElem?_eq_getElem (by omega)⟩
      obtain ⟨l, hl⟩ : ∃ l, ls[k]? = some l := ⟨ls[k], List.getElem?_eq_getElem (by omega)⟩
      obtain ⟨g, off, hq, d⟩ := hL.cell m1 hy
      subst hq
      have sy := (hL _ _ m1).each k y l hy hl
      obtain ⟨qy, ny, cy, ey⟩ := sy.slice
      have hbl := hb l (List.mem_of_getElem? hl)
      have HT : Hid (puts S (ls.take (k + 1)) = put1 (puts S (ls.take k)) l) := by
        show _ = _
        rw [List.take_add_one, hl]
        exact puts_snoc _ _ _
      generalize hT : puts S (ls.take k) = T at *
      obtain ⟨q1, cap1, e1, hc1, hm1⟩ := h1.form
      have c2 := h1.tri.c2
      rw [e1] at c2
      have hki : (k : Int) < (n : Int) := by omega
      have hkn : k < n := by omega
      have h0 := h1.lt
      have hmax := h1.max
      subst ey
      clear hy hl hT
      by_cases hlt : T.l.length < 4096
      · go_upto_region 7 with (go_at_call 24; refine (padmits_yes b _ _ _ _ c2 hlt).mono ?_; rintro e W1 ⟨rfl, hW1⟩; subst W1)
        refine region_L 8 (S := fun w' => Below wr.heap.size wr w') (by kernel_rfl) ((Below.refl _ _).drew) (fun hHeld => ?_)
        have d2 : ∀ w', Below wr.heap.size wr w' → w'.cell? ⟨b, 2, none⟩ = some (.slice q1 T.l.length cap1) := fun w' hb => keep_cell hb c2 h1.blk.lt
        have dy : ∀ w', Below wr.heap.size wr w' → Sl w' (.slice qy ny cy) l := fun w' hb => sy.keep hb
        clear c2 sy d
        generalize wr.drew = V at *
        refine takeP (i := 0) (some 17) (by rfl) rfl rfl (by kernel_rfl) (by kernel_rfl) (by kernel_rfl) (fun _ _ _ h => h) (by rfl) (fun w => by go_simp; try rfl) hHeld ?_
        go_frame
        refine takeP (i := 1) (some 18) (by rfl) rfl rfl (by kernel_rfl) (by kernel_rfl) (by kernel_rfl) (fun _ _ _ h => h) (by rfl) (fun w => by go_simp; try rfl) hHeld ?_
        go_frame
        refine takeP (i := 2) (some 19) (by rfl) rfl rfl (by kernel_rfl) (by kernel_rfl) (by kernel_rfl) (fun _ _ _ h => h) (by rfl) (fun w => by go_simp; try rfl) hHeld ?_
        go_frame
        refine takeP (i := 3) (some 20) (by rfl) rfl rfl (by kernel_rfl) (by kernel_rfl) (by kernel_rfl) (fun _ _ _ h => h) (by rfl) (fun w => by go_simp; try rfl) hHeld ?_
        go_frame
        refine takeP (i := 5) (some 22) (by rfl) rfl rfl (by kernel_rfl) (by kernel_rfl) (by kernel_rfl) (fun _ _ _ h => h) (by rfl) (fun w => by go_simp; try rfl) hHeld ?_
        go_frame
        refine takeL (i := 4) [8] (some 21) (by rfl) rfl rfl (by kernel_rfl) (by kernel_rfl) (by kernel_rfl) (by kernel_rfl) (fun _ _ _ h => h) (by rfl) (fun w hSw => by (try dsimp only at hSw); (have hcc := d2 _ hSw; go_simp; try rfl)) hHeld ?_
        go_frame
        refine takeL (i := 6) [7, 8] (some 23) (by rfl) rfl rfl (by kernel_rfl) (by kernel_rfl) (by kernel_rfl) (by kernel_rfl) (fun _ _ _ h => h) (by rfl) (fun w hSw => by (try dsimp only at hSw); exact cv_run (x := .tmp 22) rfl rfl (dy _ hSw)) hHeld ?_
        go_frame
        refine anyL_ready (rs := [7]) (by kernel_rfl) (by simp) (AllL.cons rfl (fun K hK => ?_) AllL.nil)
        rw [if_pos (by rfl)]
        refine st1W (some 24) rfl rfl rfl ?_
        intro x2 W2 own2 b2
        refine hK.out _ _ (ab_trans hHeld b2) (fun hHeld => ?_)
        clear hK K
        try go_frame
        have h2 := h1.keep hHeld
        refine anyL_ready (rs := [8]) (by kernel_rfl) (by simp) (AllL.last rfl (by kernel_rfl) (fun K hK => ?_))
        rw [if_pos (by rfl)]
        have own2' : W2.ownsRow base 9 1 (.slice q1 T.l.length cap1) T.l.length (txv T.l) := by have := h2.own; rw [e1] at this; exact this
        refine app_tW base (some 25) rfl rfl rfl own2' rfl (txo_of own2).txs rfl (by simp; omega) (Nat.le_of_lt h2.lt) ?_
        intro v5 W5 own5 gr5 at5
        have hap := h2.apart
        rw [e1] at hap
        have hB5 := blk_grownT h2.blk gr5 hap
        have d5 := hB5.at (i := 2) rfl
        have f5 := hB5.frozen 2
        obtain ⟨q5, c5, e5⟩ := (txo_of own5).txs.slice
        refine hK.out _ _ ?_
        clear hK K
        rw [e5]
        generalize (T.l ++ [l]).length = N5 at *
        try go_frame
        refine anyL_ready (rs := [9]) (by kernel_rfl) (by simp) (AllL.free rfl (by kernel_rfl) (fun K hK => ?_))
        go_simp
        refine hK.out _ _ ?_
        clear hK K
        try go_frame
        refine anyL_ready (rs := [10]) (by kernel_rfl) (by simp) (AllL.free rfl (by kernel_rfl) (fun K hK => ?_))
        go_simp
        refine hK.out _ _ ?_
        clear hK K
        try go_frame
        refine anyL_ready (rs := [11]) (by kernel_rfl) (by simp) (AllL.free rfl (by kernel_rfl) (fun K hK => ?_))
        go_simp
        refine hK.out _ _ ?_
        clear hK K
        refine anyL_done (by kernel_rfl) ?_
        go_wp2_with fail
        rw [← e5]
        have hap5 := blk_own own5 hB5 (by decide)
        have k6 := chg_set W5 b 2 v5
        refine ⟨⟨k + 1, v5, by omega, rfl, by rw [HT.out]; exact h2.more (own_chgT own5 k6 hap5) (hB5.set 2 v5) hbl hlt, ?_⟩, by simp only [intOf]; omega⟩
        rw [e1] at m1
        exact m1.trans ((mv_below _ hHeld).trans ((mv_grown gr5 at5).trans (mv_chg v5 k6)))
      · have c0 := h1.tri.c0
        have f0 := h1.frozen 0
        go_wp2_with (go_at_call 24; refine (padmits_no b _ _ _ _ _ c0 f0 c2 hlt).mono ?_; rintro e W1 ⟨rfl, hW1⟩; subst W1)
        exact ⟨⟨k + 1, v1, by omega, rfl, by rw [HT.out]; exact h1.lose hlt, m1.trans (mv_chg v1 (chg_set _ _ _ _))⟩, by simp only [intOf]; omega⟩
theorem send_nil (x : Value) (w : World) : Calls Try.prog 14 #[.pointer none, x] w fun e w' => e = .returned (.int .i64 0) ∧ w' = w := by
  go_enter Try.func14, Try.ntmps14
  go_wp2_with fail
  go_ret
  exact ⟨rfl, rfl⟩
end Go.Proofs.Yteililgfjnoabaa
