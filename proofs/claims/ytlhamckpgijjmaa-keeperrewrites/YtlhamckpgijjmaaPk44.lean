/-
  Keeper: the key and the register that a row tells.
  Keeper: an answer, and whether a note asks.
  Keeper: whether a note asks.
-/
import Derived.Test.YtlhamckpgijjmaaPk42
import Derived.Test.YtlhamckpgijjmaaPk09
namespace Go.Proofs.Ytlhamckpgijjmaa
open Go.RowKit
set_option linter.unusedVariables false
set_option maxRecDepth 100000

/-- The key and the register that a row tells, where it is a keeper's. -/
def rdB (l : List Nat) : Option (Int × Rg) := (numsR l 39).bind fun ns => if 1 ≤ ns.length ∧ keyB (ns.getD 0 0) = true ∧ tkB (ns.drop 1) = true then some (ns.getD 0 0, tkO (ns.drop 1)) else none
/-- What readRow answers. -/
def RwP (W : World) (base : Nat) (x : Option (Int × Rg)) (e : Ending) : Prop :=
  (∀ k r, x = some (k, r) → ∃ q n c, e = .returned (.tuple #[.int .i64 k, rV r.p r.a (.slice q n c), .bool true]) ∧ Io W base (.slice q n c) r.l ∧ r.l.length = n) ∧
  (x = none → ∃ k p a q n c, e = .returned (.tuple #[.int .i64 k, rV p a (.slice q n c), .bool false]))
theorem results_tct {P : Program} {fn : Func} {p s r : Tmp} {ty : TypeId} (h : fn.results = #[.tmp r, .cell p ty, .tmp s]) (tmps : Array Value) (w : World) (g : Nat) (t : TypeId) (cs : Array Value) (fr : Nat × Nat) (d : TypeDesc) (u v : Value)
    (hr : tmps.getD r undef = v) (hp : tmps.getD p undef = .pointer (some ⟨g, 0, none⟩)) (hs : tmps.getD s undef = u) (hg : w.heap[g]? = some (.cells cs t fr))
    (hu : P.underlying ty = some d) (hd : (match d with | .struct _ | .array _ _ => true | _ => false) = true) (hi : (P.info? ty).map (·.size) = some cs.size) :
    (results fn tmps).run P w = .ok (.tuple #[v, .agg cs, u]) w := by
  have hp' : tmps[p]?.getD undef = .pointer (some ⟨g, 0, none⟩) := by simpa using hp
  have hs' : tmps[s]?.getD undef = u := by simpa using hs
  have hr' : tmps[r]?.getD undef = v := by simpa using hr
  simp [results, h, hp', hs', hr', asAddr, run_loadVar_row w g t ty cs fr d hg hu hd hi]
set_option maxHeartbeats 2000000 in
theorem kread_any (v : Value) (l : List Nat) (w : World) (hv : Sl w v l) (hb : Byt l) (hl : l.length ≤ 100000) :
    Calls Try.prog 22 #[v] w fun e w' => RwP w' w.heap.size (rdB l) e ∧ Below w.heap.size w w' := by
  obtain ⟨qv, cv, ev, -⟩ := id hv
  subst ev
  go_enter Try.func22, Try.ntmps22
  go_upto_region 1 with fail
  obtain ⟨A, hAe, hB, bA⟩ := blk1 w (rC zB zB (.slice none 0 0)) 40
  rw [show w.alloc (.cells #[.int .i64 0, .int .i64 0, .int .i64 0, .int .i64 0, .int .i64 0, .int .i64 0, .slice none 0 0] 40) = A from hAe]
  clear hAe
  go_wp2_with fail
  refine (fnums_any _ l 39 A (hv.keep bA) hb hl).mono ?_
  rintro e W1 ⟨hnp, b1⟩
  have hB1 := hB.keep b1
  have bW := ab_trans bA b1
  cases hR : numsR l 39 with
  | none =>
    have hrd : rdB l = none := by unfold rdB; rw [hR]; rfl
    obtain rfl := hnp.none hR
    have E1 := ne30
    clear hnp hR
    go_wp2_with (refine st_rg rfl rfl (p1 := zB) (a1 := zB) hB1 rfl rfl ?_; intro W5 hB5 C5)
    exact bodyPost_ret (results_tct rfl _ _ _ 40 _ (0, 0) _ (.bool false) (.int .i64 0) rfl rfl rfl hB5 Try.underlying40 rfl (info_rg zB zB _)) rfl ⟨⟨fun k r h => (by rw [hrd] at h; cases h), fun _ => ⟨0, zB, zB, none, 0, 0, rfl⟩⟩, ab_chg bW C5 (Nat.le_refl _)⟩
  | some ns =>
    obtain ⟨v1, rfl, O1⟩ := hnp.some ns hR
    have E1 := ne00
    have i1 := O1.is
    obtain ⟨q1, c1, e1⟩ := i1.form
    obtain ⟨n, hn⟩ : ∃ n, ns.length = n := ⟨_, rfl⟩
    rw [hn] at e1
    subst e1
    clear hnp
    by_cases h1 : 1 ≤ n
    · obtain ⟨g0, o0, hq0, hg0, row0⟩ := i1.at (by omega)
      have hl1 := i1.len
      obtain ⟨x0, hx0⟩ : ∃ x, ns[0]? = some x := ⟨ns[0]'(by omega), List.getElem?_eq_getElem _⟩
      have hd0 : ns.getD 0 0 = x0 := by rw [List.getD_eq_getElem?_getD, hx0]; rfl
      have m0 := row0 0 x0 hx0
      rw [Nat.add_zero] at m0
      subst hq0
      have h1i : ¬ (n : Int) < 1 := by omega
      have h0n : 0 < n := by omega
      have h0i : (0 : Int) < (n : Int) := by omega
      have hc1 := hl1.2.1
      have hc2 := hl1.2.2
      have HD0 : Hid (ns.getD 0 0 = x0) := hd0
      have HRd : Hid (rdB l = if keyB x0 = true ∧ tkB (ns.drop 1) = true then some (x0, tkO (ns.drop 1)) else none) := by
        unfold rdB
        rw [hR]
        show (if _ then _ else _) = _
        rw [hd0, hn]
        by_cases hz : keyB x0 = true ∧ tkB (ns.drop 1) = true
        · rw [if_pos hz, if_pos ⟨h1, hz⟩]
        · rw [if_neg hz, if_neg (fun h => hz h.2)]
      clear hR hx0 hd0 hn hl1 row0
      go_wp2_with fail
      refine (iskey_any x0 _).mono ?_
      rintro e W1 ⟨rfl, rfl⟩
      cases hkey : keyB x0
      · have hrd : rdB l = none := by rw [HRd.out, hkey, if_neg (by simp)]
        clear m0
        go_wp2_with (refine st_rg rfl rfl (p1 := zB) (a1 := zB) hB1 rfl rfl ?_; intro W5 hB5 C5)
        exact bodyPost_ret (results_tct rfl _ _ _ 40 _ (0, 0) _ (.bool false) (.int .i64 0) rfl rfl rfl hB5 Try.underlying40 rfl (info_rg zB zB _)) rfl ⟨⟨fun k r h => (by rw [hrd] at h; cases h), fun _ => ⟨0, zB, zB, none, 0, 0, rfl⟩⟩, ab_chg bW C5 (Nat.le_refl _)⟩
      · go_upto_region 4 with fail
        clear E1 h1i
        obtain ⟨q2, e2⟩ := sliced_form (some ⟨g0, o0, none⟩) 1 n c1
        have i2 : Is W1 (.slice q2 (n - 1) (c1 - 1)) (ns.drop 1) := by
          have := i1.sub (i := 1) (j := n) (sc := c1) (by omega) (by omega) (Nat.le_refl _) (by omega) e2.symm
          rwa [List.take_of_length_le (by rw [List.length_drop]; have := i1.len; omega)] at this
        obtain ⟨nt, hnt⟩ : ∃ nt, ns.drop 1 = nt := ⟨_, rfl⟩
        rw [hnt] at i2 HRd
        clear hnt
        go_cut [7, 8] from 29 to 34 (fun x y wc => ∃ g q3 n3 c3, x = .pointer (some ⟨g, 0, none⟩) ∧ y = .bool (tkB nt) ∧ W1.heap.size ≤ g ∧ Blk wc g (rC (tkR nt).p (tkR nt).a (.slice q3 n3 c3)) 40 ∧ Io wc W1.heap.size (.slice q3 n3 c3) (tkR nt).l ∧ (tkR nt).l.length = n3 ∧ Below W1.heap.size W1 wc)
        case first =>
          by_cases hc : c1 = 1
          · have hq2 : q2 = some ⟨g0, o0, none⟩ := by unfold sliced at e2; rw [if_pos hc] at e2; injection e2 with a1; exact a1.symm
            subst hq2
            subst hc
            have i2' : Is W1 (.slice (some ⟨g0, o0, none⟩) 0 0) nt := by
              have hn1 : n = 1 := by omega
              subst hn1
              exact i2
            go_wp2_with fail
            refine (take9_any _ nt W1 i2').mono ?_
            rintro e W2 ⟨⟨q3, n3, c3, rfl, O3, hn3⟩, b2⟩
            go_wp2_with fail
            have bN : Below W2.heap.size W2 (W2.alloc (.cells (rC (tkR nt).p (tkR nt).a (.slice q3 n3 c3)) 40)) := (Below.refl _ _).alloc (Nat.le_refl _) _
            go_meet
            case rel => exact ⟨_, q3, n3, c3, rfl, rfl, b2.size, Blk.new W2 _ _, O3.keep bN, hn3, ab_trans b2 bN⟩
          · have hq2 : q2 = some ⟨g0, o0 + 1, none⟩ := by unfold sliced at e2; rw [if_neg hc] at e2; injection e2 with a1; rw [← a1]; show some (Addr.add _ _) = _; rw [add_plain _ rfl]
            subst hq2
            go_wp2_with fail
            refine (take9_any _ nt W1 i2).mono ?_
            rintro e W2 ⟨⟨q3, n3, c3, rfl, O3, hn3⟩, b2⟩
            go_wp2_with fail
            have bN : Below W2.heap.size W2 (W2.alloc (.cells (rC (tkR nt).p (tkR nt).a (.slice q3 n3 c3)) 40)) := (Below.refl _ _).alloc (Nat.le_refl _) _
            go_meet
            case rel => exact ⟨_, q3, n3, c3, rfl, rfl, b2.size, Blk.new W2 _ _, O3.keep bN, hn3, ab_trans b2 bN⟩
        case rest =>
          obtain ⟨g, q3, n3, c3, rfl, rfl, hg, hG, O3, hn3, b3⟩ := hcut
          have m1 : ∀ V, Below wc.heap.size wc V → V.cell? ⟨g0, o0, none⟩ = some (.int .i64 x0) := fun V hb => keep_cell (ab_trans b3 hb) m0 hg0
          have hBc := hB1.keep b3
          have HTK : Hid ((tkB nt = true → rdB l = some (x0, tkR nt)) ∧ (tkB nt = false → rdB l = none)) := by
            refine ⟨fun h => ?_, fun h => ?_⟩
            · rw [HRd.out, if_pos ⟨hkey, h⟩, tkR_ok h]
            · rw [HRd.out, if_neg (fun x => by rw [h] at x; cases x.2)]
          generalize tkB nt = ok at *
          generalize tkR nt = tr at *
          obtain ⟨tp, ta, tl⟩ := tr
          dsimp only at hG O3 hn3
          clear i2 e2 m0
          go_upto_region 5 with fail
          refine region_L 6 (S := fun w' => Below wc.heap.size wc w') (by kernel_rfl) ((Below.refl _ _).drew) (fun hHeld => ?_)
          have hdr : Below wc.heap.size wc wc.drew := hHeld
          generalize wc.drew = V0 at *
          refine takeP (i := 0) (some 35) (by rfl) rfl rfl (by kernel_rfl) (by kernel_rfl) (by kernel_rfl) (fun _ _ _ h => h) (by rfl) (fun w => by go_simp; try rfl) hHeld ?_
          go_frame
          refine takeP (i := 1) (some 36) (by rfl) rfl rfl (by kernel_rfl) (by kernel_rfl) (by kernel_rfl) (fun _ _ _ h => h) (by rfl) (fun w => by go_simp; try rfl) hHeld ?_
          go_frame
          refine takeL (i := 2) [5, 6] (some 37) (by rfl) rfl rfl (by kernel_rfl) (by kernel_rfl) (by kernel_rfl) (by kernel_rfl) (fun _ _ _ h => h) (by rfl) (fun w hSw => by (try dsimp only at hSw); (have mm := m1 _ hSw; go_simp; try rfl)) hHeld ?_
          go_frame
          refine takeL (i := 3) [6] (some 38) (by rfl) rfl rfl (by kernel_rfl) (by kernel_rfl) (by kernel_rfl) (by kernel_rfl) (fun _ _ _ h => h) (by rfl) (fun w hSw => by (try dsimp only at hSw); (have hh := hG.keep hSw; have t0 := hh.at (i := 0) rfl; have t1 := hh.at (i := 1) rfl; have t2 := hh.at (i := 2) rfl; have t3 := hh.at (i := 3) rfl; have t4 := hh.at (i := 4) rfl; have t5 := hh.at (i := 5) rfl; have t6 := hh.at (i := 6) rfl; go_simp; try rfl)) hHeld ?_
          go_frame
          refine takeP (i := 4) (some 39) (by rfl) rfl rfl (by kernel_rfl) (by kernel_rfl) (by kernel_rfl) (fun _ _ _ h => h) (by rfl) (fun w => by go_simp; try rfl) hHeld ?_
          go_frame
          refine anyL_ready (rs := [5]) (by kernel_rfl) (by simp) (AllL.cons rfl (fun K hK => ?_) AllL.nil)
          go_simp
          refine hK.out _ _ hdr (fun hHeld => ?_)
          clear hK K
          try go_frame
          have hBd := hBc.keep hdr
          refine anyL_ready (rs := [6]) (by kernel_rfl) (by simp) (AllL.last rfl (by kernel_rfl) (fun K hK => ?_))
          rw [if_pos (by rfl)]
          refine stW none rfl rfl hBd rfl rfl (info_rg tp ta (.slice q3 n3 c3)) rfl (rg_one tp ta _ _ _) fun X9 hG9 C9 => ?_
          refine hK.out _ _ ?_
          clear hK K
          try go_frame
          refine anyL_ready (rs := [7]) (by kernel_rfl) (by simp) (AllL.free rfl (by kernel_rfl) (fun K hK => ?_))
          go_simp
          refine hK.out _ _ ?_
          clear hK K
          refine anyL_done (by kernel_rfl) ?_
          go_wp2_with fail
          have bX : Below w.heap.size w X9 := ab_chg (ab_trans bW (ab_trans b3 hdr)) C9 (Nat.le_refl _)
          refine bodyPost_ret (results_tct rfl _ _ _ 40 _ (0, 0) _ (.bool ok) (.int .i64 x0) rfl rfl rfl hG9 Try.underlying40 rfl (info_rg tp ta _)) rfl ⟨⟨fun k r h => ?_, fun h => ?_⟩, bX⟩
          · cases ok
            · rw [HTK.out.2 rfl] at h; cases h
            · rw [HTK.out.1 rfl] at h
              cases h
              exact ⟨q3, n3, c3, rfl, (io_chg (O3.keep hdr) C9 hB1.lt).less bW.size, hn3⟩
          · cases ok
            · exact ⟨x0, tp, ta, q3, n3, c3, rfl⟩
            · rw [HTK.out.1 rfl] at h; cases h
    · have hrd : rdB l = none := by unfold rdB; rw [hR]; show (if _ then _ else _) = none; rw [if_neg (by omega)]
      have h1i : (n : Int) < 1 := by omega
      clear hR
      go_wp2_with (refine st_rg rfl rfl (p1 := zB) (a1 := zB) hB1 rfl rfl ?_; intro W5 hB5 C5)
      exact bodyPost_ret (results_tct rfl _ _ _ 40 _ (0, 0) _ (.bool false) (.int .i64 0) rfl rfl rfl hB5 Try.underlying40 rfl (info_rg zB zB _)) rfl ⟨⟨fun k r h => (by rw [hrd] at h; cases h), fun _ => ⟨0, zB, zB, none, 0, 0, rfl⟩⟩, ab_chg bW C5 (Nat.le_refl _)⟩
end Go.Proofs.Ytlhamckpgijjmaa
namespace Go.Proofs.Ytlhamckpgijjmaa
open Go.RowKit
set_option linter.unusedVariables false
set_option maxRecDepth 100000

abbrev ntC (k f t : Int) (vn vo ve : Value) : Array Value := #[.int .i64 k, .int .i64 f, .int .i64 t, vn, vo, ve]
theorem bsnt1 (k f t : Int) (q : Option Addr) (n c : Nat) (w : World) : (Instr.buildSlice 22 1 #[(0, .agg (ntC k f t (.slice q n c) (.slice none 0 0) (.slice none 0 0)))]).run Try.prog w = .ok (.slice (some ⟨w.heap.size, 0, none⟩) 1 1) (w.alloc (.cells (ntC k f t (.slice q n c) (.slice none 0 0) (.slice none 0 0)) 35)) := by kernel_rfl
section
variable {ops : Array Oper} {rest : List Oper} {o : Oper} {a : Act} {w : World} {Q : Exit → Act → World → Prop}
theorem bs_nt1 (hw : Region.wanted o (yielded ops a.tmps) = true) {parts : Array (Nat × Operand)} (ho : o.op = .buildSlice 22 1 parts) (k f t : Int) (q : Option Addr) (n c : Nat) (hl : parts.map (fun (i, x) => (i, a.eval x)) = #[(0, .agg (ntC k f t (.slice q n c) (.slice none 0 0) (.slice none 0 0)))])
    (h : ∀ W', Blk W' w.heap.size (ntC k f t (.slice q n c) (.slice none 0 0) (.slice none 0 0)) 35 → Below w.heap.size w W' → wpList Try.prog ops Q rest (a.put o.dst (.slice (some ⟨w.heap.size, 0, none⟩) 1 1)) W') : wpList Try.prog ops Q (o :: rest) a w := by
  unfold wpList
  rw [if_pos hw]
  left
  unfold Oper.wp execOp
  simp only [ho, Sem.run_bind, hl, bsnt1, Result.andThen_ok]
  exact h _ (Blk.new _ _ _) ((Below.refl _ _).alloc (Nat.le_refl _) _)
end
/-- One note, in new memory. -/
def AnP (W : World) (base : Nat) (k f t : Int) (l : List Int) (e : Ending) : Prop := ∃ g q n c, e = .returned (.slice (some ⟨g, 0, none⟩) 1 1) ∧ base ≤ g ∧ Blk W g (ntC k f t (.slice q n c) (.slice none 0 0) (.slice none 0 0)) 35 ∧ Io W base (.slice q n c) l ∧ l.length = n
set_option maxHeartbeats 1000000 in
theorem kanswer_any (k f t kind : Int) (vn vo ve vm : Value) (ns ms : List Int) (w : World) (hn : Is w vn ns) (h4 : 4 ≤ ns.length) (hm : Is w vm ms) (hml : ms.length ≤ 1000) :
    Calls Try.prog 28 #[.agg (ntC k f t vn vo ve), .int .i64 kind, vm] w fun e w' => AnP w' w.heap.size kind t f (ns.take 4 ++ ms) e ∧ Below w.heap.size w w' := by
  obtain ⟨q1, c1, e1⟩ := hn.form
  obtain ⟨n, hnn⟩ : ∃ n, ns.length = n := ⟨_, rfl⟩
  rw [hnn] at e1 h4
  subst e1
  obtain ⟨q3, c3, e3⟩ := hm.form
  obtain ⟨m, hmm⟩ : ∃ n, ms.length = n := ⟨_, rfl⟩
  rw [hmm] at e3 hml
  subst e3
  have ht4 : (ns.take 4).length = 4 := by rw [List.length_take]; omega
  go_enter Try.func28, Try.ntmps28
  go_upto_region 1 with fail
  obtain ⟨A, hAe, hB, bA⟩ := blk1 w (ntC k f t (.slice q1 n c1) vo ve) 35
  rw [show w.alloc (.cells _ 35) = A from hAe]
  clear hAe
  have inA := hn.keep bA
  have imA := hm.keep bA
  have d3 := hB.at (i := 3) rfl
  go_upto_region 2 with (first
    | (refine sli_h A rfl rfl 4 rfl rfl rfl h4 inA ?_; intro q2 i2)
    | (go_at_call 24; refine (kclone_any _ (ns.take 4) A i2 (by omega)).mono ?_; rintro e W1 ⟨v1, rfl, O1, b1⟩)
    | (refine app_i A rfl rfl (l := ns.take 4) (m := ms) rfl O1 rfl (imA.keep b1) hmm (by omega) b1 ?_; intro v2 W2 own2 nn2 bA2 gr2 at2; have f2 := (io_of own2).is.form; obtain ⟨q4, c4, e4⟩ := f2; obtain ⟨n4, hn4⟩ : ∃ n, (ns.take 4 ++ ms).length = n := ⟨_, rfl⟩; rw [hn4] at e4; subst e4; have O2 := io_of own2; clear own2 nn2 gr2 at2; go_frame))
  have hB2 := hB.keep bA2
  have y1 := hB2.at (i := 1) rfl
  have y2 := hB2.at (i := 2) rfl
  clear d3
  go_wp2_with (refine bs_nt1 rfl rfl kind t f q4 n4 c4 (by simp only [List.map_toArray, List.map_cons, List.map_nil]; rfl) ?_; intro W3 hB3 b3; go_frame)
  go_ret
  exact ⟨⟨_, q4, n4, c4, rfl, (ab_trans bA bA2).size, hB3, (O2.keep b3).less bA.size, hn4⟩, ab_trans (ab_trans bA bA2) b3⟩
/-- Whether a note asks something of a key's register. -/
def askB (N : Nt) : Prop := (N.k = 1 ∨ N.k = 3) ∧ GoodN N ∧ keyB (N.ns.getD 0 0) = true
end Go.Proofs.Ytlhamckpgijjmaa
namespace Go.Proofs.Ytlhamckpgijjmaa
open Go.RowKit
set_option linter.unusedVariables false
set_option maxRecDepth 100000

def AskP (N : Nt) (e : Ending) : Prop := ∃ b, e = .returned (.bool b) ∧ (b = true ↔ askB N)
theorem good_four {N : Nt} (h : GoodN N) (hk : N.k = 1 ∨ N.k = 3) : 4 ≤ N.ns.length ∧ N.ns.length ≤ 36 ∧ N.os.length = 0 ∧ N.es.length = 0 := by
  have := h.fit
  unfold FitK at this
  omega
theorem eqN2 (w : World) : (binOp .eql 28 (Err 2) .nilIface).run Try.prog w = .ok (.bool false) w := by kernel_rfl
set_option maxHeartbeats 1000000 in
theorem kasks_any (N : Nt) (vn vo ve : Value) (w : World) (h1 : Is w vn N.ns) (h2 : SR 5 k64 w vo N.os) (h3 : SR 76 ek w ve N.es) :
    Calls Try.prog 25 #[ntV N vn vo ve] w fun e w' => AskP N e ∧ Below w.heap.size w w' := by
  have HC : Hid (∀ V, Below w.heap.size w V → Calls Try.prog 40 #[ntV N vn vo ve] V fun e w' => CkP N e ∧ Below V.heap.size V w') := fun V hV => check_any N vn vo ve V (h1.keep hV) (h2.keep hV) (h3.keep hV)
  obtain ⟨k, f, t, ns, os, es⟩ := N
  have HN : Hid (GoodN ⟨k, f, t, ns, os, es⟩ → (k = 1 ∨ k = 3) → 4 ≤ ns.length ∧ ns.length ≤ 36 ∧ os.length = 0 ∧ es.length = 0) := fun h hk => good_four h hk
  dsimp only at h1 HC ⊢
  obtain ⟨q1, c1, e1⟩ := h1.form
  obtain ⟨n, hnn⟩ : ∃ n, ns.length = n := ⟨_, rfl⟩
  rw [hnn] at e1
  subst e1
  obtain ⟨q2, c2, -, -, e2, -⟩ := id h2
  obtain ⟨q3, c3, -, -, e3, -⟩ := id h3
  dsimp only at e2 e3
  generalize hn2 : os.length = n2 at *
  generalize hn3 : es.length = n3 at *
  subst e2
  subst e3
  go_enter Try.func25, Try.ntmps25
  go_upto_region 1 with fail
  obtain ⟨A, hAe, hB, bA⟩ := blk1 w (ntC k f t (.slice q1 n c1) (.slice q2 n2 c2) (.slice q3 n3 c3)) 35
  rw [show w.alloc (.cells _ 35) = A from hAe]
  clear hAe
  have d0 := hB.at (i := 0) rfl
  have d1 := hB.at (i := 1) rfl
  have d2 := hB.at (i := 2) rfl
  have d3 := hB.at (i := 3) rfl
  have d4 := hB.at (i := 4) rfl
  have d5 := hB.at (i := 5) rfl
  by_cases hk : k = 1 ∨ k = 3
  · have HK : Hid (k = 1 ∨ k = 3) := hk
    have z1 : (k != 1 && k != 3) = false := by rcases hk with e | e <;> rw [e] <;> rfl
    clear hk
    go_cut [10] from 3 to 9 (fun s wc => s = .bool false ∧ wc = A)
    case first =>
      by_cases k1 : k = 1
      · have y1 : (k != 1) = false := by rw [k1]; rfl
        clear k1
        go_wp2_with fail
        go_meet
        case rel => exact ⟨rfl, rfl⟩
      · have y1 : (k != 1) = true := by simp [k1]
        have k3 : k = 3 := by have := HK.out; omega
        have y3 : (k != 3) = false := by rw [k3]; rfl
        clear k1 k3
        go_wp2_with fail
        go_meet
        case rel => exact ⟨rfl, rfl⟩
    case rest =>
      obtain ⟨rfl, hA⟩ := hcut
      subst wc
      go_wp2_with fail
      refine (HC.out A bA).mono ?_
      rintro e W1 ⟨hck, b1⟩
      have i1 := h1.keep (ab_trans bA b1)
      have m3 := (hB.keep b1).at (i := 3) rfl
      by_cases hg : GoodN ⟨k, f, t, ns, os, es⟩
      · obtain rfl := hck.1 hg
        have E1 := eqNN
        have h4 := (HN.out hg HK.out).1
        rw [hnn] at h4
        have h0i : (0 : Int) < (n : Int) := by omega
        have h0n : 0 < n := by omega
        obtain ⟨g0, o0, hq0, hg0, row0⟩ := i1.at (by omega)
        obtain ⟨x0, hx0⟩ : ∃ x, ns[0]? = some x := ⟨ns[0]'(by omega), List.getElem?_eq_getElem _⟩
        have hd0 : ns.getD 0 0 = x0 := by rw [List.getD_eq_getElem?_getD, hx0]; rfl
        have m0 := row0 0 x0 hx0
        rw [Nat.add_zero] at m0
        have hl1 := i1.len
        have hc1 := hl1.2.1
        have hc2 := hl1.2.2
        subst hq0
        have HG : Hid (keyB x0 = true ↔ askB ⟨k, f, t, ns, os, es⟩) := by
          unfold askB
          dsimp only
          rw [hd0]
          exact ⟨fun h => ⟨HK.out, hg, h⟩, fun h => h.2.2⟩
        clear hck hg hd0 hx0 hl1 row0 d0 d1 d2 d3 d4 d5
        go_wp2_with fail
        refine (iskey_any x0 _).mono ?_
        rintro e W1 ⟨rfl, rfl⟩
        go_wp2_with fail
        go_ret
        exact ⟨⟨_, rfl, HG.out⟩, ab_trans bA b1⟩
      · obtain rfl := hck.2 hg
        have E1 := eqN2
        have HG : Hid (¬ askB ⟨k, f, t, ns, os, es⟩) := fun h => hg h.2.1
        clear hck hg d0 d1 d2 d3 d4 d5
        go_wp2_with fail
        go_ret
        exact ⟨⟨false, rfl, fun h => (by cases h), fun h => absurd h HG.out⟩, ab_trans bA b1⟩
  · have k1 : (k != 1) = true := by simp only [bne_iff_ne, ne_eq]; omega
    have k3 : (k != 3) = true := by simp only [bne_iff_ne, ne_eq]; omega
    have HG : Hid (¬ askB ⟨k, f, t, ns, os, es⟩) := fun h => hk h.1
    clear hk
    go_wp2_with fail
    go_ret
    exact ⟨⟨false, rfl, fun h => (by cases h), fun h => absurd h HG.out⟩, bA⟩
end Go.Proofs.Ytlhamckpgijjmaa
