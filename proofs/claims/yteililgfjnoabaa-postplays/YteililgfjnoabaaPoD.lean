/-
  slices.Delete of one text; post.remove.
-/
import Derived.Test.YteililgfjnoabaaPoM
namespace Go.Proofs.Yteililgfjnoabaa
open Go.RowKit
set_option linter.unusedVariables false
set_option maxRecDepth 100000

theorem eltS : Try.prog.underlying 28 = some (.slice (Try.prog.elem 28)) := by kernel_rfl
theorem sizeS (w : World) : (sizeOf (Try.prog.elem 28)).run Try.prog w = .ok 1 w := by kernel_rfl
theorem zeroS (w : World) : (zeroValue 9).run Try.prog w = .ok (.string ⟨#[]⟩) w := by kernel_rfl
theorem erase_row {cur : List Value} {ls : List (List Nat)} {i k : Nat} (hlen : ls.length = k + 1) (ht : cur.take (k + 1) = txv ls) (hi : i < k + 1) (z : Value) (r : List Value) :
    ((cur.take i ++ (txv ls).drop (i + 1) ++ r).set k z).take k = txv (ls.eraseIdx i) := by
  have h1 : cur.take i = (txv ls).take i := by rw [← ht, List.take_take]; congr 1; omega
  have h2 : ((txv ls).take i ++ (txv ls).drop (i + 1)).length = k := by rw [List.length_append, List.length_take, List.length_drop, txv_len, hlen]; omega
  rw [List.take_set_of_le (Nat.le_refl _), h1, List.take_left' h2]
  unfold txv
  rw [← List.map_take, ← List.map_drop, ← List.map_append, List.eraseIdx_eq_take_drop_succ]
/-- append into the room of a row, at one operation. -/
theorem app_roomW {o : Oper} {a : Act} {w : World} {K : Act → World → Prop} {Q : Exit → Act → World → Prop} (d : Option Tmp) (hd : o.dst = d) {s x : Operand} (ho : o.op = .call { callee := .builtin .append, args := #[s, x], argTypes := #[28, 28] })
    {g i cap m c : Nat} {cur : Array Value} {ad : Addr} {ms : List (List Nat)} (hs : a.eval s = .slice (some ⟨g, 0, none⟩) i cap) (hx : a.eval x = .slice (some ad) m c) (hg : w.heap[g]? = some (.cells cur 9 (0, 0))) (hm : ms.length = m)
    (hsrc : ∀ j u, (txv ms)[j]? = some u → w.cell? (ad.add j) = some u) (hroom : i + m ≤ cap) (hfit : i + m ≤ cur.size)
    (h : K (a.put d (.slice (some ⟨g, 0, none⟩) (i + m) cap)) (w.setRow g (cur.toList.take i ++ txv ms ++ cur.toList.drop (i + m)).toArray)) : o.wp Try.prog a w K Q := by
  subst hd
  obtain ⟨ti, hi, hz0, hz1, hz2⟩ := info_parts infoText
  have hr := run_append_room (P := Try.prog) w 28 o.type 9 ti Try.underlying28 hi g i cap cur hg ad m c (txv ms) (by rw [txv_len, hz1, Nat.mul_one, hm]) hsrc (txv_one ms) hroom (by rw [txv_len, hz1, hm]; omega)
  rw [hz1, Nat.mul_one, txv_len, hm] at hr
  unfold Oper.wp execOp
  simp only [ho, resolve, invoke, builtin, Sem.run_bind, Sem.run_pure, Result.andThen_ok, List.map_toArray, List.map_cons, List.map_nil, hs, hx, hr]
  exact h
/-- clear of one text: its run. -/
theorem clr_run {w : World} {g off n c : Nat} (ty : TypeId) (hn : n = 1) (hc : (w.cell? ⟨g, off, none⟩).isSome = true) (hf : w.frozen? ⟨g, off, none⟩ = false) :
    (Builtin.clear_ #[28] ty #[.slice (some ⟨g, off, none⟩) n c]).run Try.prog w = .ok (.tuple #[]) (w.setCell ⟨g, off, none⟩ (.string ⟨#[]⟩)) := by
  subst hn
  have hc' : ∀ j, j < 1 → (w.cell? ⟨g, off + j, none⟩).isSome = true := fun j hj => by
    obtain rfl : j = 0 := by omega
    exact hc
  have hf' : ∀ j, j < 1 → w.frozen? ⟨g, off + j, none⟩ = false := fun j hj => by
    obtain rfl : j = 0 := by omega
    exact hf
  exact Lib.run_clear_slice (P := Try.prog) w 28 9 ty (.string ⟨#[]⟩) Try.underlying28 zeroS rfl rfl g off 1 c (by omega) hc' hf'
set_option maxHeartbeats 1000000 in
theorem del_any (base g k cap i : Nat) (ls : List (List Nat)) (w : World) (hown : w.ownsRow base 9 1 (.slice (some ⟨g, 0, none⟩) (k + 1) cap) (k + 1) (txv ls)) (hi : i < k + 1) :
    Calls Try.prog 29 #[.slice (some ⟨g, 0, none⟩) (k + 1) cap, .int .i64 ((i : Nat) : Int), .int .i64 (((i + 1 : Nat) : Nat) : Int)] w fun e w' => e = .returned (.slice (some ⟨g, 0, none⟩) k cap) ∧ w'.ownsRow base 9 1 (.slice (some ⟨g, 0, none⟩) k cap) k (txv (ls.eraseIdx i)) ∧ Chg g w w' := by
  have hlen : ls.length = k + 1 := by have := hown.1; rwa [txv_len, Nat.mul_one] at this
  rcases hown.2 with ⟨h2, _⟩ | ⟨g', cap', cur, e, hb, hg, hnc, hcm, hcs, ht⟩
  · cases h2
  · cases e
    rw [Nat.mul_one] at hcs ht
    have hcm' : cap ≤ 9223372036854775807 := hcm
    have hik : (i : Int) ≤ (k : Int) := by omega
    have hne : ((i : Int) == (((i + 1 : Nat) : Nat) : Int)) = false := by simp; omega
    obtain ⟨I1, hI1⟩ : ∃ I1 : Nat, I1 = i + 1 := ⟨_, rfl⟩
    rw [← hI1] at hne ⊢
    have hI1a : i + 1 ≤ I1 := by omega
    have hI1b : I1 ≤ i + 1 := by omega
    clear hI1
    obtain ⟨N, hN⟩ : ∃ N : Nat, N = k + 1 := ⟨_, rfl⟩
    rw [← hN] at hnc ⊢
    have hNa : k + 1 ≤ N := by omega
    have hNb : N ≤ k + 1 := by omega
    clear hN
    have hNc : (N : Int) ≤ (cap : Int) := by omega
    have hIN : (I1 : Int) ≤ (N : Int) := by omega
    have hiI : (i : Int) ≤ (I1 : Int) := by omega
    have hIN' : I1 ≤ N := by omega
    have hiI' : i ≤ I1 := by omega
    go_enter Try.func29, Try.ntmps29
    go_upto_region 5 with fail
    refine wp_region_held_drew (S := fun _ => True) (by kernel_rfl) trivial (fun hHeld => ?_)
    have hgV : w.drew.heap[g]? = some (.cells cur 9 (0, 0)) := hg
    have hcV : Chg g w w.drew := ⟨rfl, rfl, rfl, rfl, fun _ _ => rfl⟩
    generalize w.drew = V at *
    obtain ⟨o', es, ho'⟩ := sliced_some g 0 I1 N cap 1
    refine takeH (i := 0) (some 20) rfl rfl (by kernel_rfl) (by kernel_rfl) (by kernel_rfl) (fun _ _ _ h => h) (by rfl) (fun w hSw => by (try dsimp only at hSw); go_simp; try rfl) hHeld ?_
    go_frame
    refine takeH (i := 1) (some 21) rfl rfl (by kernel_rfl) (by kernel_rfl) (by kernel_rfl) (fun _ _ _ h => h) (by rfl) (fun w hSw => by (try dsimp only at hSw); go_simp; try rfl) hHeld ?_
    go_frame
    refine takeH (i := 2) (some 22) rfl rfl (by kernel_rfl) (by kernel_rfl) (by kernel_rfl) (fun _ _ _ h => h) (by rfl) (fun w hSw => by (try dsimp only at hSw); (exact slo_h (x := .tmp 20) (z := .tmp 21) rfl rfl rfl rfl eltS (sizeS _) (by omega))) hHeld ?_
    go_frame
    refine takeH (i := 3) (some 23) rfl rfl (by kernel_rfl) (by kernel_rfl) (by kernel_rfl) (fun _ _ _ h => h) (by rfl) (fun w hSw => by (try dsimp only at hSw); go_simp; try rfl) hHeld ?_
    go_frame
    refine takeH (i := 4) (some 24) rfl rfl (by kernel_rfl) (by kernel_rfl) (by kernel_rfl) (fun _ _ _ h => h) (by rfl) (fun w hSw => by (try dsimp only at hSw); go_simp; try rfl) hHeld ?_
    go_frame
    refine takeH (i := 5) (some 25) rfl rfl (by kernel_rfl) (by kernel_rfl) (by kernel_rfl) (fun _ _ _ h => h) (by rfl) (fun w hSw => by (try dsimp only at hSw); (exact slo_l (x := .tmp 23) (y := .tmp 24) rfl rfl rfl rfl eltS (sizeS _) (by omega) (by omega) es)) hHeld ?_
    go_frame
    refine wpAnyH_ready (rs := [6]) (by kernel_rfl) (by simp) (AllReadyH.cons rfl (fun K hK => ?_) AllReadyH.nil)
    rw [if_pos (by rfl)]
    have hsrc : ∀ j u, (txv (ls.drop I1))[j]? = some u → V.cell? ((⟨g, o', none⟩ : Addr).add j) = some u := by
      intro j u hu
      have hj : j < N - I1 := by
        have := (List.getElem?_eq_some_iff.1 hu).1
        rw [txv_len, List.length_drop] at this
        omega
      rw [Addr.add_mid, ho' (by omega), Nat.zero_add, Nat.mul_one, cell_of_row V g (I1 + j) cur 9 (0, 0) hgV]
      have h3 : (txv ls)[I1 + j]? = some u := by rw [← hu]; simp [txv, List.getElem?_drop]
      rw [← ht, List.getElem?_take, if_pos (by omega)] at h3
      simpa using h3
    refine app_roomW (some 26) rfl rfl (ms := ls.drop I1) rfl rfl hgV (by rw [List.length_drop]; omega) hsrc (by omega) (by omega) ?_
    refine hK.out _ _ trivial (fun hHeld => ?_)
    clear hK K
    have hk : i + (N - I1) = k := by omega
    rw [hk]
    have hB1 : Blk (V.setRow g (cur.toList.take i ++ txv (ls.drop I1) ++ cur.toList.drop k).toArray) g (cur.toList.take i ++ txv (ls.drop I1) ++ cur.toList.drop k).toArray 9 := setRow_heap V g cur _ 9 (0, 0) hgV
    have hC1 := hcV.trans (chg_setRow V g (cur.toList.take i ++ txv (ls.drop I1) ++ cur.toList.drop k).toArray)
    have hlr : (cur.toList.take i ++ txv (ls.drop I1) ++ cur.toList.drop k).length = cap := by
      simp [txv_len]
      omega
    have hER := erase_row hlen ht hi (.string ⟨#[]⟩) (cur.toList.drop k)
    have hdr : txv (ls.drop I1) = (txv ls).drop (i + 1) := by rw [show I1 = i + 1 by omega]; simp [txv]
    rw [← hdr] at hER
    generalize V.setRow g (cur.toList.take i ++ txv (ls.drop I1) ++ cur.toList.drop k).toArray = W1 at *
    generalize hR : cur.toList.take i ++ txv (ls.drop I1) ++ cur.toList.drop k = R at *
    have hsome : (W1.cell? ⟨g, k, none⟩).isSome = true := by rw [hB1.cell k, List.getElem?_toArray, List.getElem?_eq_getElem (by omega)]; rfl
    have hfr := hB1.frozen k
    clear hsrc es ho' hgV hcV hdr
    go_frame
    refine takeH (i := 7) (some 0) rfl rfl (by kernel_rfl) (by kernel_rfl) (by kernel_rfl) (fun _ _ _ h => h) (by rfl) (fun w hSw => by (try dsimp only at hSw); go_simp; try rfl) hHeld ?_
    go_frame
    refine wpAnyH_done (by kernel_rfl) ?_ _
    have hkN : (k : Int) ≤ (N : Int) := by omega
    have hcl := fun ty => clr_run (n := N - k) (c := cap - k) ty (by omega) hsome hfr
    go_wp2_with fail
    go_ret
    refine ⟨rfl, ⟨by rw [← hER, List.length_take, List.length_set, Nat.mul_one]; omega, .inr ⟨g, cap, (R.set k (.string ⟨#[]⟩)).toArray, rfl, hb, ?_, by omega, hcm, by rw [Nat.mul_one]; simp [hlr], by rw [Nat.mul_one]; exact hER⟩⟩, hC1.trans (chg_set _ _ _ _)⟩
    have := hB1.set k (.string ⟨#[]⟩)
    unfold Blk at this
    rw [this]
    simp
theorem mv_row {b g : Nat} {w w' : World} {v v' : Value} (h : Chg g w w') (hv : v.ownBlock = some g) (hv' : v'.ownBlock = some g) : Mv b w w' v v' :=
  ⟨h.os, h.tape, h.output, Nat.le_of_eq h.size.symm, fun k _ _ hk => h.other k (fun e => hk (by rw [e]; exact hv)), fun r hr => .inl (by rw [hv]; rw [hv'] at hr; exact hr)⟩
set_option maxHeartbeats 1000000 in
theorem premove_any (base b i : Nat) (v : Value) (S : PS) (w : World) (h : Pt w base b v S) (hi : i < S.l.length) :
    Calls Try.prog 26 #[pptr b, .int .i64 ((i : Nat) : Int)] w fun e w' => e = .returned (.tuple #[]) ∧ ∃ v', Pt w' base b v' { S with l := S.l.eraseIdx i } ∧ Mv b w w' v v' := by
  have hmax := h.max
  obtain ⟨k, hk⟩ : ∃ k, S.l.length = k + 1 := ⟨S.l.length - 1, by omega⟩
  have hown := h.own
  rw [hk] at hown
  have hnn : v ≠ .slice none 0 0 := by
    intro e
    rcases hown.2 with ⟨_, h2⟩ | ⟨g', cap', cur, e2, _⟩
    · cases h2
    · rw [e] at e2; cases e2
  obtain ⟨g, cap, e, hb, hg, hc, hm, -⟩ := own_cells hown hnn
  subst e
  have c2 := h.tri.c2
  have hapart := h.apart
  have hI : Hid (((i : Int) + 1) = (((i + 1 : Nat) : Nat) : Int)) := by show _ = _; omega
  have hi2 : (i : Int) ≤ 4096 := by omega
  go_enter Try.func26, Try.ntmps26
  go_wp2_with (go_at_call 29; rw [hI.out]; refine (del_any base g k cap i S.l _ hown (by omega)).mono ?_; rintro e W1 ⟨rfl, own1, ch1⟩; have hB1 := h.blk.chg ch1 (fun e => hapart (by rw [e]; rfl)); have d2 := hB1.at (i := 2) rfl; have f2 := hB1.frozen 2)
  go_end0
  have hB2 := hB1.set 2 (.slice (some ⟨g, 0, none⟩) k cap)
  have k2 := chg_set W1 b 2 (.slice (some ⟨g, 0, none⟩) k cap)
  have hap : (Value.slice (some ⟨g, 0, none⟩) k cap).ownBlock ≠ some b := blk_own own1 hB1 (by decide)
  have hle : (S.l.eraseIdx i).length = k := by rw [List.length_eraseIdx_of_lt hi]; omega
  refine ⟨rfl, _, ⟨h.ge, hB2, ?_, by show (S.l.eraseIdx i).length ≤ 4096; omega, h.bl, h.bt, fun l hl => h.byt l (List.mem_of_mem_eraseIdx hl)⟩, (mv_row ch1 rfl rfl).trans (mv_chg _ k2)⟩
  show World.ownsRow _ _ _ _ _ (S.l.eraseIdx i).length _
  rw [hle]
  exact own_chgT own1 k2 hap
end Go.Proofs.Yteililgfjnoabaa
