/-
  Slices of strings: texts and same of estuarylaw07.
-/
import Derived.Test.YtalbiggmmmkclaaDyL
import Derived.Test.YtalbiggmmmkclaaTpH
import Derived.Test.YtalbiggmmmkclaaFrR
namespace Go.Proofs.Ytalbiggmmmkclaa
open Go.RowKit
set_option linter.unusedVariables false
set_option maxRecDepth 100000

/-- Texts as values. -/
def txv (ls : List (List Nat)) : List Value := ls.map fun l => Value.string (strB l)
theorem txv_len (ls : List (List Nat)) : (txv ls).length = ls.length := by simp [txv]
theorem txv_app (ls ms : List (List Nat)) : txv ls ++ txv ms = txv (ls ++ ms) := by simp [txv]
theorem txv_at (ls : List (List Nat)) (j : Nat) : (txv ls)[j]? = ls[j]?.map fun l => Value.string (strB l) := by simp [txv]
theorem txv_one (ls : List (List Nat)) : ∀ u ∈ txv ls, u.oneCell' = true := by
  intro u hu
  obtain ⟨x, _, rfl⟩ := List.mem_map.1 hu
  rfl
theorem infoText : (Try.prog.info? 9).map (fun i => (i.zero, i.size, i.bytes)) = some (some (.string ⟨#[]⟩), 1, 16) := by kernel_rfl
/-- An own slice of texts. -/
def Txo (W : World) (base : Nat) (v : Value) (ls : List (List Nat)) : Prop := W.ownsRow base 9 1 v ls.length (txv ls)
/-- A slice of texts. -/
def Txs (W : World) (v : Value) (ls : List (List Nat)) : Prop := ∃ q cap g off, v = .slice q ls.length cap ∧ ls.length ≤ cap ∧ cap ≤ 9223372036854775807 ∧ (0 < ls.length → q = some ⟨g, off, none⟩) ∧ (0 < ls.length → g < W.heap.size) ∧ ∀ j l, ls[j]? = some l → W.cell? ⟨g, off + j, none⟩ = some (.string (strB l))
theorem txo_of {W : World} {base n : Nat} {v : Value} {ls : List (List Nat)} (h : W.ownsRow base 9 1 v n (txv ls)) : Txo W base v ls := by
  have : n = ls.length := by have := h.1; rw [txv_len, Nat.mul_one] at this; exact this.symm
  subst this
  exact h
theorem Txo.keep {W W' : World} {base : Nat} {v : Value} {ls : List (List Nat)} (h : Txo W base v ls) (hb : Below W.heap.size W W') : Txo W' base v ls := own_keep h hb
theorem Txo.lt {W : World} {base : Nat} {v : Value} {ls : List (List Nat)} (h : Txo W base v ls) : ∀ k, v.ownBlock = some k → base ≤ k ∧ k < W.heap.size := World.ownsRow.lt h
theorem Txo.at {W W' : World} {base : Nat} {v : Value} {ls : List (List Nat)} (h : Txo W base v ls) (he : ∀ k, v.ownBlock = some k → W'.heap[k]? = W.heap[k]?) : Txo W' base v ls := own_at h he
theorem Txo.less {W : World} {base base' : Nat} {v : Value} {ls : List (List Nat)} (h : Txo W base v ls) (hb : base' ≤ base) : Txo W base' v ls := own_less h hb
theorem Txo.txs {W : World} {base : Nat} {v : Value} {ls : List (List Nat)} (h : Txo W base v ls) : Txs W v ls := by
  obtain ⟨h1, q, g, cap, e, hp, hg, _, _, hc, hm, hr, _⟩ := own_open h (by omega)
  exact ⟨q, cap, g, 0, e, hc, hm, hp, hg, fun j l hl => by rw [Nat.zero_add]; exact hr j _ (by rw [txv_at, hl]; rfl)⟩
theorem Txs.keep {W W' : World} {v : Value} {ls : List (List Nat)} (h : Txs W v ls) (hb : Below W.heap.size W W') : Txs W' v ls := by
  obtain ⟨q, cap, g, off, e, h1, h2, h3, h4, h5⟩ := h
  refine ⟨q, cap, g, off, e, h1, h2, h3, fun h0 => Nat.lt_of_lt_of_le (h4 h0) hb.size, fun j l hl => ?_⟩
  have h0 : 0 < ls.length := by have := (List.getElem?_eq_some_iff.1 hl).1; omega
  exact (hb.cell (p := ⟨g, off + j, none⟩) (h4 h0)).trans (h5 j l hl)
theorem Txs.slice {W : World} {v : Value} {ls : List (List Nat)} (h : Txs W v ls) : ∃ q c, v = .slice q ls.length c := by
  obtain ⟨q, cap, g, off, e, _⟩ := h
  exact ⟨q, cap, e⟩
theorem txs_src {W : World} {v : Value} {ls : List (List Nat)} (h : Txs W v ls) : ∃ q cap, v = .slice q ls.length cap ∧ (q = none → ls.length = 0) ∧ (∀ ad, q = some ad → ∀ j u, (txv ls)[j]? = some u → W.cell? (ad.add j) = some u) := by
  obtain ⟨q, cap, g, off, e, h1, h2, h3, h4, h5⟩ := h
  refine ⟨q, cap, e, fun hq => ?_, fun ad ha j u hu => ?_⟩
  · apply Classical.byContradiction
    intro h0
    have := h3 (by omega)
    rw [hq] at this
    cases this
  · rw [txv_at] at hu
    cases hl : ls[j]? with
    | none => rw [hl] at hu; simp at hu
    | some l =>
      rw [hl] at hu
      simp at hu
      subst hu
      have h0 : 0 < ls.length := by have := (List.getElem?_eq_some_iff.1 hl).1; omega
      have := h3 h0
      rw [ha] at this
      cases this
      rw [Addr.add_mid]
      exact h5 j l hl
/-- append of texts onto an own slice of them: its run. -/
theorem app_runS {w : World} (base : Nat) (ty : TypeId) {v vx : Value} {n k : Nat} {ls ms : List (List Nat)} (hown : w.ownsRow base 9 1 v n (txv ls)) (hsl : Txs w vx ms) (hm : ms.length = k) (h63 : n + k ≤ 8000000000000) (hA : base ≤ w.heap.size) :
    ∃ v' w', (Builtin.append_ #[48, 48] ty #[v, vx]).run Try.prog w = .ok v' w' ∧ w'.ownsRow base 9 1 v' (n + k) (txv (ls ++ ms)) ∧ w.grownBy w' v.ownBlock ∧ (v'.ownBlock = v.ownBlock ∨ v'.ownBlock = some w.heap.size) := by
  obtain ⟨i, hi, hz0, hz1, hz2⟩ := info_parts infoText
  subst hm
  obtain ⟨q, cap, rfl, hq, hsrc⟩ := txs_src hsl
  cases q with
  | none =>
    have h0 := hq rfl
    have hm0 : ms = [] := List.eq_nil_of_length_eq_zero h0
    subst hm0
    exact ⟨v, w, append_none (P := Try.prog) w base 48 ty 9 i 1 cap Try.underlying48 hi v n (txv ls) hown, by simpa using hown, ⟨rfl, rfl, rfl, Nat.le_refl _, fun _ _ _ => rfl⟩, .inl rfl⟩
  | some ad =>
    obtain ⟨v', w', hr, h2, h3, h4, h5⟩ := run_append_own_at (P := Try.prog) w base 48 ty 9 i _ 1 16 Try.underlying48 hi hz0 hz1 hz2 rfl (by omega) v n (txv ls) hown ad ms.length cap (txv ms) (by rw [txv_len, Nat.mul_one]) (hsrc ad rfl) (txv_one ms) (by unfold maxLen; omega) (by omega) hA
    exact ⟨v', w', hr, by rw [← txv_app]; exact h2, h3, h5⟩
theorem own_newS (w : World) (ls : List (List Nat)) (n : Nat) (hn : ls.length = n) (hm : n ≤ maxLen) (base : Nat) (hb : base ≤ w.heap.size) : (w.alloc (.cells (txv ls).toArray 9)).ownsRow base 9 1 (.slice (some ⟨w.heap.size, 0, none⟩) n n) n (txv ls) := by
  refine ⟨by rw [txv_len, hn, Nat.mul_one], .inr ⟨w.heap.size, n, (txv ls).toArray, rfl, hb, ?_, Nat.le_refl _, hm, ?_, ?_⟩⟩
  · show (w.heap.push _)[w.heap.size]? = _; simp
  · simp [txv_len, hn]
  · rw [Nat.mul_one, ← hn, ← txv_len ls]; simp
theorem bss0 (w : World) : (Instr.buildSlice 48 0 #[]).run Try.prog w = .ok (.slice (some ⟨w.heap.size, 0, none⟩) 0 0) (w.alloc (.cells (txv []).toArray 9)) := by kernel_rfl
theorem bss1 (l : List Nat) (w : World) : (Instr.buildSlice 48 1 #[(0, .string (strB l))]).run Try.prog w = .ok (.slice (some ⟨w.heap.size, 0, none⟩) 1 1) (w.alloc (.cells (txv [l]).toArray 9)) := by kernel_rfl
section
variable {ops : Array Oper} {rest : List Oper} {o : Oper} {a : Act} {w : World} {Q : Exit → Act → World → Prop}
theorem app_st (base : Nat) (hw : Region.wanted o (yielded ops a.tmps) = true) {s x : Operand} (ho : o.op = .call { callee := .builtin .append, args := #[s, x], argTypes := #[48, 48] })
    {v vx : Value} {n k : Nat} {ls ms : List (List Nat)} (hs : a.eval s = v) (hown : w.ownsRow base 9 1 v n (txv ls)) (hx : a.eval x = vx) (hsl : Txs w vx ms) (hm : ms.length = k) (h63 : n + k ≤ 8000000000000) (hA : base ≤ w.heap.size)
    (h : ∀ v' w', w'.ownsRow base 9 1 v' (n + k) (txv (ls ++ ms)) → w.grownBy w' v.ownBlock → (v'.ownBlock = v.ownBlock ∨ v'.ownBlock = some w.heap.size) → wpList Try.prog ops Q rest (a.put o.dst v') w') : wpList Try.prog ops Q (o :: rest) a w := by
  obtain ⟨v', w', hr, h1, h2, h3⟩ := app_runS base o.type hown hsl hm h63 hA
  unfold wpList
  rw [if_pos hw]
  left
  unfold Oper.wp execOp
  simp only [ho, resolve, invoke, builtin, Sem.run_bind, Sem.run_pure, Result.andThen_ok, List.map_toArray, List.map_cons, List.map_nil, hs, hx, hr]
  exact h v' w' h1 h2 h3
theorem bs_st (hw : Region.wanted o (yielded ops a.tmps) = true) {n : Nat} {parts : Array (Nat × Operand)} (ho : o.op = .buildSlice 48 n parts) (ls : List (List Nat)) {vs : Array (Nat × Value)} (hl : parts.map (fun (i, x) => (i, a.eval x)) = vs)
    (hrun : (Instr.buildSlice 48 n vs).run Try.prog w = .ok (.slice (some ⟨w.heap.size, 0, none⟩) n n) (w.alloc (.cells (txv ls).toArray 9))) (hn : ls.length = n) (hm : n ≤ maxLen)
    (h : ∀ W', W'.ownsRow w.heap.size 9 1 (.slice (some ⟨w.heap.size, 0, none⟩) n n) n (txv ls) → Below w.heap.size w W' → wpList Try.prog ops Q rest (a.put o.dst (.slice (some ⟨w.heap.size, 0, none⟩) n n)) W') : wpList Try.prog ops Q (o :: rest) a w := by
  unfold wpList
  rw [if_pos hw]
  left
  unfold Oper.wp execOp
  simp only [ho, Sem.run_bind, hl, hrun, Result.andThen_ok]
  exact h _ (own_newS w ls n hn hm _ (Nat.le_refl _)) ((Below.refl _ _).alloc (Nat.le_refl _) _)
end
theorem below_ownS {w w' : World} {base : Nat} {v : Value} {n : Nat} {xs : List Value} (h : w.ownsRow base 9 1 v n xs) (hA : base ≤ w.heap.size) (hg : w.grownBy w' v.ownBlock) : Below base w w' :=
  (Below.refl _ _).grown hg hA (fun r hr => (h.lt r hr).1)
set_option maxHeartbeats 1000000 in
theorem dtexts_any (x : Value) (vs : List Value) (ls : List (List Nat)) (w : World) (hx : Ls w x vs ls) (h8 : ls.length ≤ 6000000000000) :
    Calls Try.prog 20 #[x] w fun e w' => ∃ v', e = .returned v' ∧ Txo w' w.heap.size v' ls ∧ Below w.heap.size w w' := by
  obtain ⟨q, cap, g, off, ep, hc, hm, hp, hg, hr⟩ := hx.open
  have hlen := hx.len
  subst ep
  generalize hn : ls.length = n at *
  go_enter Try.func20, Try.ntmps20
  go_wp2_with fail
  go_loopw [3, 9] (fun y i wr => ∃ k : Nat, k ≤ n ∧ i = .int .i64 (k : Int) ∧ Txo wr w.heap.size y (ls.take k) ∧ Below w.heap.size w wr) (fun _ i _ => n - (intOf i).toNat)
  case atStart => exact ⟨0, by omega, rfl, txo_of (n := 0) (own_newS w [] 0 rfl (by decide) _ (Nat.le_refl _)), (Below.refl _ _).alloc (Nat.le_refl _) _⟩
  case round =>
    obtain ⟨k, hk, rfl, HO, hbw⟩ := hrel
    by_cases c : k = n
    · subst c
      rw [List.take_of_length_le (by omega)] at HO
      clear hr hp hg hx
      go_wp2_with fail
      go_ret
      exact ⟨_, rfl, HO, hbw⟩
    · obtain ⟨y, hy⟩ : ∃ y, vs[k]? = some y := ⟨vs[k], List.getElem?_eq_getElem (by omega)⟩
      obtain ⟨l, hl⟩ : ∃ l, ls[k]? = some l := ⟨ls[k], List.getElem?_eq_getElem (by omega)⟩
      obtain rfl := hp (by omega)
      have dy := keep_cell hbw (hr k y hy) (hg (by omega))
      have sy := (hx.each k y l hy hl).keep hbw
      have cy := sl_str sy
      obtain ⟨qy, ny, cy', ey⟩ := sy.slice
      have hki : (k : Int) < (n : Int) := by omega
      have hkn : k < n := by omega
      have HT : Hid (ls.take (k + 1) = ls.take k ++ [l]) := by show _ = _; rw [List.take_add_one, hl]; rfl
      have HTl : (ls.take k).length = k := by rw [List.length_take]; omega
      have HO' : wr.ownsRow w.heap.size 9 1 u3 k (txv (ls.take k)) := by have := HO; unfold Txo at this; rwa [HTl] at this
      subst ey
      clear hr hp hg hx hy hl HO
      go_wp2_with (first
        | (refine bs_st rfl rfl [l] (by simp only [List.map_toArray, List.map_cons, List.map_nil]; rfl) (bss1 _ _) rfl (by decide) ?_; intro W2 n2 b2; have HO2 := own_keep HO' b2; have t2 := (txo_of n2).txs)
        | (at_builtin; refine app_st w.heap.size rfl rfl rfl HO2 rfl t2 rfl (by simp; omega) (ab_trans hbw b2).size ?_; intro v5 W5 hown5 hgr5 hat5))
      have hb5 := (ab_trans hbw b2).trans (below_ownS HO2 (ab_trans hbw b2).size hgr5)
      exact ⟨⟨k + 1, by omega, rfl, by rw [HT.out]; exact txo_of hown5, hb5⟩, by simp only [intOf]; omega⟩
set_option maxHeartbeats 1000000 in
theorem dsame_any (x y : Value) (vs : List Value) (ls ms : List (List Nat)) (w : World) (hx : Ls w x vs ls) (hy : Txs w y ms) (hbl : ∀ l ∈ ls, Byt l) (hbm : ∀ l ∈ ms, Byt l) :
    Calls Try.prog 27 #[x, y] w fun e w' => e = .returned (.bool (decide (ls = ms))) ∧ Below w.heap.size w w' := by
  obtain ⟨q, cap, g, off, ep, hc, hm, hp, hg, hr⟩ := hx.open
  have hlen := hx.len
  subst ep
  obtain ⟨q2, cap2, g2, off2, ep2, hc2, hm2, hp2, hg2, hr2⟩ := hy
  subst ep2
  generalize hn : ls.length = n at *
  generalize hn2 : ms.length = n2 at *
  by_cases hnn : n = n2
  · subst hnn
    go_enter Try.func27, Try.ntmps27
    go_wp2_with fail
    go_loopw [13] (fun i wr => ∃ k : Nat, k ≤ n ∧ i = .int .i64 (k : Int) ∧ ls.take k = ms.take k ∧ Below w.heap.size w wr) (fun i _ => n - (intOf i).toNat)
    case atStart => exact ⟨0, by omega, rfl, rfl, Below.refl _ _⟩
    case round =>
      obtain ⟨k, hk, rfl, hpre, hbw⟩ := hrel
      by_cases c : k = n
      · subst c
        rw [List.take_of_length_le (by omega), List.take_of_length_le (by omega)] at hpre
        have HE : Hid (decide (ls = ms) = true) := decide_eq_true hpre
        clear hr hp hg hx hr2 hp2 hg2 hpre
        go_wp2_with fail
        go_ret
        exact ⟨by rw [HE.out]; rfl, hbw⟩
      · obtain ⟨u, hu⟩ : ∃ y, vs[k]? = some y := ⟨vs[k], List.getElem?_eq_getElem (by omega)⟩
        obtain ⟨l, hl⟩ : ∃ l, ls[k]? = some l := ⟨ls[k], List.getElem?_eq_getElem (by omega)⟩
        obtain ⟨m, hm'⟩ : ∃ l, ms[k]? = some l := ⟨ms[k], List.getElem?_eq_getElem (by omega)⟩
        obtain rfl := hp (by omega)
        obtain rfl := hp2 (by omega)
        have hg' := hg (by omega)
        have hg2' := hg2 (by omega)
        have du := keep_cell hbw (hr k u hu) hg'
        have dm := keep_cell hbw (hr2 k m hm') hg2'
        have su := (hx.each k u l hu hl).keep hbw
        have cu := sl_str su
        obtain ⟨qy, ny, cy', ey⟩ := su.slice
        have hki : (k : Int) < (n : Int) := by omega
        have hkn : k < n := by omega
        have hiff := strB_iff (hbl l (List.mem_of_getElem? hl)) (hbm m (List.mem_of_getElem? hm'))
        have HT : Hid (ls.take (k + 1) = ls.take k ++ [l]) := by show _ = _; rw [List.take_add_one, hl]; rfl
        have HT2 : Hid (ms.take (k + 1) = ms.take k ++ [m]) := by show _ = _; rw [List.take_add_one, hm']; rfl
        have HNE : Hid (l ≠ m → decide (ls = ms) = false) := fun hne => decide_eq_false fun he => hne (by rw [he, hm'] at hl; cases hl; rfl)
        subst ey
        clear hr hp hg hx hu hl hr2 hp2 hg2 hm'
        go_upto_region 6 with fail
        refine wp_region_held_drew (S := fun w' => w' = wr.drew) (by kernel_rfl) rfl (fun hHeld => ?_)
        have bd : Below wr.heap.size wr wr.drew := (Below.refl _ _).drew
        have du2 := keep_cell bd du (Nat.lt_of_lt_of_le hg' hbw.size)
        have dm2 := keep_cell bd dm (Nat.lt_of_lt_of_le hg2' hbw.size)
        have su2 := su.keep bd
        have hb2 := ab_trans hbw bd
        clear du dm su cu bd hbw
        generalize wr.drew = V at *
        by_cases hlm : l = m
        · have hrefl : ((strB m).toList == (strB m).toList) = true := by simp
          subst hlm
          refine takeH (i := 0) (some 16) rfl rfl (by kernel_rfl) (by kernel_rfl) (by kernel_rfl) (fun _ _ _ h => h) (by rfl) (fun w hSw => by (try dsimp only at hSw); go_simp; try rfl) hHeld ?_
          go_frame
          refine takeH (i := 1) (some 17) rfl rfl (by kernel_rfl) (by kernel_rfl) (by kernel_rfl) (fun _ _ _ h => h) (by rfl) (fun w hSw => by (try dsimp only at hSw); go_simp; try rfl) hHeld ?_
          go_frame
          refine takeH (i := 2) (some 18) rfl rfl (by kernel_rfl) (by kernel_rfl) (by kernel_rfl) (fun _ _ _ h => h) (by rfl) (fun w hSw => by (try dsimp only at hSw); go_simp; try rfl) hHeld ?_
          go_frame
          refine takeH (i := 3) (some 19) rfl rfl (by kernel_rfl) (by kernel_rfl) (by kernel_rfl) (fun _ _ _ h => h) (by rfl) (fun w hSw => by (try dsimp only at hSw); (subst hSw; go_simp; try rfl)) hHeld ?_
          go_frame
          refine takeH (i := 4) (some 20) rfl rfl (by kernel_rfl) (by kernel_rfl) (by kernel_rfl) (fun _ _ _ h => h) (by rfl) (fun w hSw => by (try dsimp only at hSw); (subst hSw; exact cv_run (x := .tmp 19) rfl rfl su2)) hHeld ?_
          go_frame
          refine takeH (i := 5) (some 21) rfl rfl (by kernel_rfl) (by kernel_rfl) (by kernel_rfl) (fun _ _ _ h => h) (by rfl) (fun w hSw => by (try dsimp only at hSw); go_simp; try rfl) hHeld ?_
          go_frame
          refine takeH (i := 6) (some 22) rfl rfl (by kernel_rfl) (by kernel_rfl) (by kernel_rfl) (fun _ _ _ h => h) (by rfl) (fun w hSw => by (try dsimp only at hSw); go_simp; try rfl) hHeld ?_
          go_frame
          refine takeH (i := 7) (some 23) rfl rfl (by kernel_rfl) (by kernel_rfl) (by kernel_rfl) (fun _ _ _ h => h) (by rfl) (fun w hSw => by (try dsimp only at hSw); go_simp; try rfl) hHeld ?_
          go_frame
          refine takeH (i := 8) (some 24) rfl rfl (by kernel_rfl) (by kernel_rfl) (by kernel_rfl) (fun _ _ _ h => h) (by rfl) (fun w hSw => by (try dsimp only at hSw); (subst hSw; go_simp; try rfl)) hHeld ?_
          go_frame
          refine takeH (i := 9) (some 25) rfl rfl (by kernel_rfl) (by kernel_rfl) (by kernel_rfl) (fun _ _ _ h => h) (by rfl) (fun w hSw => by (try dsimp only at hSw); (refine (?_ : _ = Result.ok (Next.value (.bool false)) _); go_simp; try rfl)) hHeld ?_
          go_frame
          refine wpAnyH_done (by kernel_rfl) ?_ _
          go_wp2_with fail
          exact ⟨⟨k + 1, by omega, rfl, by rw [HT.out, HT2.out, hpre], hb2⟩, by simp only [intOf]; omega⟩
        · have hneb := strB_ne (fun h => hlm (hiff.1 h))
          have HE := HNE.out hlm
          refine takeH (i := 0) (some 16) rfl rfl (by kernel_rfl) (by kernel_rfl) (by kernel_rfl) (fun _ _ _ h => h) (by rfl) (fun w hSw => by (try dsimp only at hSw); go_simp; try rfl) hHeld ?_
          go_frame
          refine takeH (i := 1) (some 17) rfl rfl (by kernel_rfl) (by kernel_rfl) (by kernel_rfl) (fun _ _ _ h => h) (by rfl) (fun w hSw => by (try dsimp only at hSw); go_simp; try rfl) hHeld ?_
          go_frame
          refine takeH (i := 2) (some 18) rfl rfl (by kernel_rfl) (by kernel_rfl) (by kernel_rfl) (fun _ _ _ h => h) (by rfl) (fun w hSw => by (try dsimp only at hSw); go_simp; try rfl) hHeld ?_
          go_frame
          refine takeH (i := 3) (some 19) rfl rfl (by kernel_rfl) (by kernel_rfl) (by kernel_rfl) (fun _ _ _ h => h) (by rfl) (fun w hSw => by (try dsimp only at hSw); (subst hSw; go_simp; try rfl)) hHeld ?_
          go_frame
          refine takeH (i := 4) (some 20) rfl rfl (by kernel_rfl) (by kernel_rfl) (by kernel_rfl) (fun _ _ _ h => h) (by rfl) (fun w hSw => by (try dsimp only at hSw); (subst hSw; exact cv_run (x := .tmp 19) rfl rfl su2)) hHeld ?_
          go_frame
          refine takeH (i := 5) (some 21) rfl rfl (by kernel_rfl) (by kernel_rfl) (by kernel_rfl) (fun _ _ _ h => h) (by rfl) (fun w hSw => by (try dsimp only at hSw); go_simp; try rfl) hHeld ?_
          go_frame
          refine takeH (i := 6) (some 22) rfl rfl (by kernel_rfl) (by kernel_rfl) (by kernel_rfl) (fun _ _ _ h => h) (by rfl) (fun w hSw => by (try dsimp only at hSw); go_simp; try rfl) hHeld ?_
          go_frame
          refine takeH (i := 7) (some 23) rfl rfl (by kernel_rfl) (by kernel_rfl) (by kernel_rfl) (fun _ _ _ h => h) (by rfl) (fun w hSw => by (try dsimp only at hSw); go_simp; try rfl) hHeld ?_
          go_frame
          refine takeH (i := 8) (some 24) rfl rfl (by kernel_rfl) (by kernel_rfl) (by kernel_rfl) (fun _ _ _ h => h) (by rfl) (fun w hSw => by (try dsimp only at hSw); (subst hSw; go_simp; try rfl)) hHeld ?_
          go_frame
          refine takeH (i := 9) (some 25) rfl rfl (by kernel_rfl) (by kernel_rfl) (by kernel_rfl) (fun _ _ _ h => h) (by rfl) (fun w hSw => by (try dsimp only at hSw); (refine (?_ : _ = Result.ok (Next.value (.bool true)) _); go_simp; try rfl)) hHeld ?_
          go_frame
          refine wpAnyH_done (by kernel_rfl) ?_ _
          go_wp2_with fail
          go_ret
          exact ⟨rfl, hb2⟩
  · have HE : Hid (decide (ls = ms) = false) := decide_eq_false fun he => hnn (by rw [← hn, ← hn2, he])
    have hni : ((n : Int) == (n2 : Int)) = false := by simp; omega
    go_enter Try.func27, Try.ntmps27
    go_wp2_with fail
    go_ret
    exact ⟨by rw [HE.out]; rfl, Below.refl _ _⟩
theorem dsame_yes (x y : Value) (vs : List Value) (ls : List (List Nat)) (w : World) (hx : Ls w x vs ls) (hy : Txs w y ls) (hbl : ∀ l ∈ ls, Byt l) :
    Calls Try.prog 27 #[x, y] w fun e w' => e = .returned (.bool true) ∧ Below w.heap.size w w' :=
  (dsame_any x y vs ls ls w hx hy hbl hbl).mono fun e w' ⟨h1, h2⟩ => ⟨by rw [h1]; simp, h2⟩
end Go.Proofs.Ytalbiggmmmkclaa
