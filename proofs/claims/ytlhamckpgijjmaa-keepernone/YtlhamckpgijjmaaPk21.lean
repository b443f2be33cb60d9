/-
  Keeper: the key and the register that a row tells.
-/
import Derived.Test.YtlhamckpgijjmaaPk19
import Derived.Test.YtlhamckpgijjmaaPk20
namespace Go.Proofs.Ytlhamckpgijjmaa
open Go.RowKit
set_option linter.unusedVariables false
set_option maxRecDepth 100000

/-- The key and the register that a row tells, where it is a keeper's. -/
def rdB (l : List Nat) : Option (Int × Rg) := (numsR l 39).bind fun ns => if 1 ≤ ns.length ∧ keyB (ns.getD 0 0) = true ∧ tkB (ns.drop 1) = true then some (ns.getD 0 0, tkO (ns.drop 1)) else none
/-- What readRow answers. -/
def RwP (W : World) (base : Nat) (x : Option (Int × Rg)) (e : Ending) : Prop :=
  (∀ k r, x = some (k, r) → ∃ q n c, e = .returned (.tuple #[.int .i64 k, rV r.p r.a (.slice q n c), .bool true]) ∧ Io W base (.slice q n c) r.l ∧ r.l.length = n) ∧
  (x = none → ∃ k p a q n c, e = .returned (.tuple #[.int .i64 k, rV p a (.slice q n c), .bool false]))
theorem results_tct {P : Program} {fn : Func} {p s r : Tmp} {ty : TypeId} (h : fn.results = #[.tmp r, .cell p ty, .tmp s]) (tmps : Array Value) (w : World) (g : Nat) (t : TypeId) (cs : Array Value) (fr : Nat × Nat) (d : TypeDesc) (u v : Value)
    (hr : tmps.getD r undef = v) (hp : tmps.getD p undef = .pointer (some ⟨g, 0, none⟩)) (hs : tmps.getD s undef = u) (hg : w.heap[g]? = some (.cells cs t fr))
    (hu : P.underlying ty = some d) (hd : (match d with | .struct _ | .array _ _ => true | _ => false) = true) (hi : (P.info? ty).map (·.size) = some cs.size) :
    (results fn tmps).run P w = .ok (.tuple #[v, .agg cs, u]) w := by
  have hp' : tmps[p]?.getD undef = .pointer (some ⟨g, 0, none⟩) := by simpa using hp
  have hs' : tmps[s]?.getD undef = u := by simpa using hs
  have hr' : tmps[r]?.getD undef = v := by simpa using hr
  simp [results, h, hp', hs', hr', asAddr, run_loadVar_row w g t ty cs fr d hg hu hd hi]
set_option maxHeartbeats 2000000 in
theorem kread_any (v : Value) (l : List Nat) (w : World) (hv : Sl w v l) (hb : Byt l) (hl : l.length ≤ 100000) :
    Calls Try.prog 22 #[v] w fun e w' => RwP w' w.heap.size (rdB l) e ∧ Below w.heap.size w w' := by
  obtain ⟨qv, cv, ev, -⟩ := id hv
  subst ev
  go_enter Try.func22, Try.ntmps22
  go_upto_region 1 with fail
  obtain ⟨A, hAe, hB, bA⟩ := blk1 w (rC zB zB (.slice none 0 0)) 40
  rw [show w.alloc (.cells #[.int .i64 0, .int .i64 0, .int .i64 0, .int .i64 0, .int .i64 0, .int .i64 0, .slice none 0 0] 40) = A from hAe]
  clear hAe
  go_wp2_with fail
  refine (fnums_any _ l 39 A (hv.keep bA) hb hl).mono ?_
  rintro e W1 ⟨hnp, b1⟩
  have hB1 := hB.keep b1
  have bW := ab_trans bA b1
  cases hR : numsR l 39 with
  | none =>
    have hrd : rdB l = none := by unfold rdB; rw [hR]; rfl
    obtain rfl := hnp.none hR
    have E1 := ne30
    clear hnp hR
    go_wp2_with (refine st_rg rfl rfl (p1 := zB) (a1 := zB) hB1 rfl rfl ?_; intro W5 hB5 C5)
    exact bodyPost_ret (results_tct rfl _ _ _ 40 _ (0, 0) _ (.bool false) (.int .i64 0) rfl rfl rfl hB5 Try.underlying40 rfl (info_rg zB zB _)) rfl ⟨⟨fun k r h => (by rw [hrd] at h; cases h), fun _ => ⟨0, zB, zB, none, 0, 0, rfl⟩⟩, ab_chg bW C5 (Nat.le_refl _)⟩
  | some ns =>
    obtain ⟨v1, rfl, O1⟩ := hnp.some ns hR
    have E1 := ne00
    have i1 := O1.is
    obtain ⟨q1, c1, e1⟩ := i1.form
    obtain ⟨n, hn⟩ : ∃ n, ns.length = n := ⟨_, rfl⟩
    rw [hn] at e1
    subst e1
    clear hnp
    by_cases h1 : 1 ≤ n
    · obtain ⟨g0, o0, hq0, hg0, row0⟩ := i1.at (by omega)
      have hl1 := i1.len
      obtain ⟨x0, hx0⟩ : ∃ x, ns[0]? = some x := ⟨ns[0]'(by omega), List.getElem?_eq_getElem _⟩
      have hd0 : ns.getD 0 0 = x0 := by rw [List.getD_eq_getElem?_getD, hx0]; rfl
      have m0 := row0 0 x0 hx0
      rw [Nat.add_zero] at m0
      subst hq0
      have h1i : ¬ (n : Int) < 1 := by omega
      have h0n : 0 < n := by omega
      have h0i : (0 : Int) < (n : Int) := by omega
      have hc1 := hl1.2.1
      have hc2 := hl1.2.2
      have HD0 : Hid (ns.getD 0 0 = x0) := hd0
      have HRd : Hid (rdB l = if keyB x0 = true ∧ tkB (ns.drop 1) = true then some (x0, tkO (ns.drop 1)) else none) := by
        unfold rdB
        rw [hR]
        show (if _ then _ else _) = _
        rw [hd0, hn]
        by_cases hz : keyB x0 = true ∧ tkB (ns.drop 1) = true
        · rw [if_pos hz, if_pos ⟨h1, hz⟩]
        · rw [if_neg hz, if_neg (fun h => hz h.2)]
      clear hR hx0 hd0 hn hl1 row0
      go_wp2_with fail
      refine (iskey_any x0 _).mono ?_
      rintro e W1 ⟨rfl, rfl⟩
      cases hkey : keyB x0
      · have hrd : rdB l = none := by rw [HRd.out, hkey, if_neg (by simp)]
        clear m0
        go_wp2_with (refine st_rg rfl rfl (p1 := zB) (a1 := zB) hB1 rfl rfl ?_; intro W5 hB5 C5)
        exact bodyPost_ret (results_tct rfl _ _ _ 40 _ (0, 0) _ (.bool false) (.int .i64 0) rfl rfl rfl hB5 Try.underlying40 rfl (info_rg zB zB _)) rfl ⟨⟨fun k r h => (by rw [hrd] at h; cases h), fun _ => ⟨0, zB, zB, none, 0, 0, rfl⟩⟩, ab_chg bW C5 (Nat.le_refl _)⟩
      · go_upto_region 4 with fail
        clear E1 h1i
        obtain ⟨q2, e2⟩ := sliced_form (some ⟨g0, o0, none⟩) 1 n c1
        have i2 : Is W1 (.slice q2 (n - 1) (c1 - 1)) (ns.drop 1) := by
          have := i1.sub (i := 1) (j := n) (sc := c1) (by omega) (by omega) (Nat.le_refl _) (by omega) e2.symm
          rwa [List.take_of_length_le (by rw [List.length_drop]; have := i1.len; omega)] at this
        obtain ⟨nt, hnt⟩ : ∃ nt, ns.drop 1 = nt := ⟨_, rfl⟩
        rw [hnt] at i2 HRd
        clear hnt
        go_cut [7, 8] from 29 to 34 (fun x y wc => ∃ g q3 n3 c3, x = .pointer (some ⟨g, 0, none⟩) ∧ y = .bool (tkB nt) ∧ W1.heap.size ≤ g ∧ Blk wc g (rC (tkR nt).p (tkR nt).a (.slice q3 n3 c3)) 40 ∧ Io wc W1.heap.size (.slice q3 n3 c3) (tkR nt).l ∧ (tkR nt).l.length = n3 ∧ Below W1.heap.size W1 wc)
        case first =>
          by_cases hc : c1 = 1
          · have hq2 : q2 = some ⟨g0, o0, none⟩ := by unfold sliced at e2; rw [if_pos hc] at e2; injection e2 with a1; exact a1.symm
            subst hq2
            subst hc
            have i2' : Is W1 (.slice (some ⟨g0, o0, none⟩) 0 0) nt := by
              have hn1 : n = 1 := by omega
              subst hn1
              exact i2
            go_wp2_with fail
            refine (take9_any _ nt W1 i2').mono ?_
            rintro e W2 ⟨⟨q3, n3, c3, rfl, O3, hn3⟩, b2⟩
            go_wp2_with fail
            have bN : Below W2.heap.size W2 (W2.alloc (.cells (rC (tkR nt).p (tkR nt).a (.slice q3 n3 c3)) 40)) := (Below.refl _ _).alloc (Nat.le_refl _) _
            go_meet
            case rel => exact ⟨_, q3, n3, c3, rfl, rfl, b2.size, Blk.new W2 _ _, O3.keep bN, hn3, ab_trans b2 bN⟩
          · have hq2 : q2 = some ⟨g0, o0 + 1, none⟩ := by unfold sliced at e2; rw [if_neg hc] at e2; injection e2 with a1; rw [← a1]; show some (Addr.add _ _) = _; rw [add_plain _ rfl]
            subst hq2
            go_wp2_with fail
            refine (take9_any _ nt W1 i2).mono ?_
            rintro e W2 ⟨⟨q3, n3, c3, rfl, O3, hn3⟩, b2⟩
            go_wp2_with fail
            have bN : Below W2.heap.size W2 (W2.alloc (.cells (rC (tkR nt).p (tkR nt).a (.slice q3 n3 c3)) 40)) := (Below.refl _ _).alloc (Nat.le_refl _) _
            go_meet
            case rel => exact ⟨_, q3, n3, c3, rfl, rfl, b2.size, Blk.new W2 _ _, O3.keep bN, hn3, ab_trans b2 bN⟩
        case rest =>
          obtain ⟨g, q3, n3, c3, rfl, rfl, hg, hG, O3, hn3, b3⟩ := hcut
          have m1 : ∀ V, Below wc.heap.size wc V → V.cell? ⟨g0, o0, none⟩ = some (.int .i64 x0) := fun V hb => keep_cell (ab_trans b3 hb) m0 hg0
          have hBc := hB1.keep b3
          have HTK : Hid ((tkB nt = true → rdB l = some (x0, tkR nt)) ∧ (tkB nt = false → rdB l = none)) := by
            refine ⟨fun h => ?_, fun h => ?_⟩
            · rw [HRd.out, if_pos ⟨hkey, h⟩, tkR_ok h]
            · rw [HRd.out, if_neg (fun x => by rw [h] at x; cases x.2)]
          generalize tkB nt = ok at *
          generalize tkR nt = tr at *
          obtain ⟨tp, ta, tl⟩ := tr
          dsimp only at hG O3 hn3
          clear i2 e2 m0
          go_upto_region 5 with fail
          refine region_L 6 (S := fun w' => Below wc.heap.size wc w') (by kernel_rfl) ((Below.refl _ _).drew) (fun hHeld => ?_)
          have hdr : Below wc.heap.size wc wc.drew := hHeld
          generalize wc.drew = V0 at *
          refine takeP (i := 0) (some 35) (by rfl) rfl rfl (by kernel_rfl) (by kernel_rfl) (by kernel_rfl) (fun _ _ _ h => h) (by rfl) (fun w => by go_simp; try rfl) hHeld ?_
          go_frame
          refine takeP (i := 1) (some 36) (by rfl) rfl rfl (by kernel_rfl) (by kernel_rfl) (by kernel_rfl) (fun _ _ _ h => h) (by rfl) (fun w => by go_simp; try rfl) hHeld ?_
          go_frame
          refine takeL (i := 2) [5, 6] (some 37) (by rfl) rfl rfl (by kernel_rfl) (by kernel_rfl) (by kernel_rfl) (by kernel_rfl) (fun _ _ _ h => h) (by rfl) (fun w hSw => by (try dsimp only at hSw); (have mm := m1 _ hSw; go_simp; try rfl)) hHeld ?_
          go_frame
          refine takeL (i := 3) [6] (some 38) (by rfl) rfl rfl (by kernel_rfl) (by kernel_rfl) (by kernel_rfl) (by kernel_rfl) (fun _ _ _ h => h) (by rfl) (fun w hSw => by (try dsimp only at hSw); (have hh := hG.keep hSw; have t0 := hh.at (i := 0) rfl; have t1 := hh.at (i := 1) rfl; have t2 := hh.at (i := 2) rfl; have t3 := hh.at (i := 3) rfl; have t4 := hh.at (i := 4) rfl; have t5 := hh.at (i := 5) rfl; have t6 := hh.at (i := 6) rfl; go_simp; try rfl)) hHeld ?_
          go_frame
          refine takeP (i := 4) (some 39) (by rfl) rfl rfl (by kernel_rfl) (by kernel_rfl) (by kernel_rfl) (fun _ _ _ h => h) (by rfl) (fun w => by go_simp; try rfl) hHeld ?_
          go_frame
          refine anyL_ready (rs := [5]) (by kernel_rfl) (by simp) (AllL.cons rfl (fun K hK => ?_) AllL.nil)
          go_simp
          refine hK.out _ _ hdr (fun hHeld => ?_)
          clear hK K
          try go_frame
          have hBd := hBc.keep hdr
          refine anyL_ready (rs := [6]) (by kernel_rfl) (by simp) (AllL.last rfl (by kernel_rfl) (fun K hK => ?_))
          rw [if_pos (by rfl)]
          refine stW none rfl rfl hBd rfl rfl (info_rg tp ta (.slice q3 n3 c3)) rfl (rg_one tp ta _ _ _) fun X9 hG9 C9 => ?_
          refine hK.out _ _ ?_
          clear hK K
          try go_frame
          refine anyL_ready (rs := [7]) (by kernel_rfl) (by simp) (AllL.free rfl (by kernel_rfl) (fun K hK => ?_))
          go_simp
          refine hK.out _ _ ?_
          clear hK K
          refine anyL_done (by kernel_rfl) ?_
          go_wp2_with fail
          have bX : Below w.heap.size w X9 := ab_chg (ab_trans bW (ab_trans b3 hdr)) C9 (Nat.le_refl _)
          refine bodyPost_ret (results_tct rfl _ _ _ 40 _ (0, 0) _ (.bool ok) (.int .i64 x0) rfl rfl rfl hG9 Try.underlying40 rfl (info_rg tp ta _)) rfl ⟨⟨fun k r h => ?_, fun h => ?_⟩, bX⟩
          · cases ok
            · rw [HTK.out.2 rfl] at h; cases h
            · rw [HTK.out.1 rfl] at h
              cases h
              exact ⟨q3, n3, c3, rfl, (io_chg (O3.keep hdr) C9 hB1.lt).less bW.size, hn3⟩
          · cases ok
            · exact ⟨x0, tp, ta, q3, n3, c3, rfl⟩
            · rw [HTK.out.1 rfl] at h; cases h
    · have hrd : rdB l = none := by unfold rdB; rw [hR]; show (if _ then _ else _) = none; rw [if_neg (by omega)]
      have h1i : (n : Int) < 1 := by omega
      clear hR
      go_wp2_with (refine st_rg rfl rfl (p1 := zB) (a1 := zB) hB1 rfl rfl ?_; intro W5 hB5 C5)
      exact bodyPost_ret (results_tct rfl _ _ _ 40 _ (0, 0) _ (.bool false) (.int .i64 0) rfl rfl rfl hB5 Try.underlying40 rfl (info_rg zB zB _)) rfl ⟨⟨fun k r h => (by rw [hrd] at h; cases h), fun _ => ⟨0, zB, zB, none, 0, 0, rfl⟩⟩, ab_chg bW C5 (Nat.le_refl _)⟩
end Go.Proofs.Ytlhamckpgijjmaa
