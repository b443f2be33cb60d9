/-
  Keeper: an answer, and whether a note asks.
  Keeper: whether a note asks.
  note.numsOf: a note's numbers.
-/
import Derived.Test.YtlhamckpgijjmaaPk21
import Derived.Test.YtlhamckpgijjmaaPk19
namespace Go.Proofs.Ytlhamckpgijjmaa
open Go.RowKit
set_option linter.unusedVariables false
set_option maxRecDepth 100000

abbrev ntC (k f t : Int) (vn vo ve : Value) : Array Value := #[.int .i64 k, .int .i64 f, .int .i64 t, vn, vo, ve]
theorem bsnt1 (k f t : Int) (q : Option Addr) (n c : Nat) (w : World) : (Instr.buildSlice 22 1 #[(0, .agg (ntC k f t (.slice q n c) (.slice none 0 0) (.slice none 0 0)))]).run Try.prog w = .ok (.slice (some ⟨w.heap.size, 0, none⟩) 1 1) (w.alloc (.cells (ntC k f t (.slice q n c) (.slice none 0 0) (.slice none 0 0)) 35)) := by kernel_rfl
section
variable {ops : Array Oper} {rest : List Oper} {o : Oper} {a : Act} {w : World} {Q : Exit → Act → World → Prop}
theorem bs_nt1 (hw : Region.wanted o (yielded ops a.tmps) = true) {parts : Array (Nat × Operand)} (ho : o.op = .buildSlice 22 1 parts) (k f t : Int) (q : Option Addr) (n c : Nat) (hl : parts.map (fun (i, x) => (i, a.eval x)) = #[(0, .agg (ntC k f t (.slice q n c) (.slice none 0 0) (.slice none 0 0)))])
    (h : ∀ W', Blk W' w.heap.size (ntC k f t (.slice q n c) (.slice none 0 0) (.slice none 0 0)) 35 → Below w.heap.size w W' → wpList Try.prog ops Q rest (a.put o.dst (.slice (some ⟨w.heap.size, 0, none⟩) 1 1)) W') : wpList Try.prog ops Q (o :: rest) a w := by
  unfold wpList
  rw [if_pos hw]
  left
  unfold Oper.wp execOp
  simp only [ho, Sem.run_bind, hl, bsnt1, Result.andThen_ok]
  exact h _ (Blk.new _ _ _) ((Below.refl _ _).alloc (Nat.le_refl _) _)
end
/-- One note, in new memory. -/
def AnP (W : World) (base : Nat) (k f t : Int) (l : List Int) (e : Ending) : Prop := ∃ g q n c, e = .returned (.slice (some ⟨g, 0, none⟩) 1 1) ∧ base ≤ g ∧ Blk W g (ntC k f t (.slice q n c) (.slice none 0 0) (.slice none 0 0)) 35 ∧ Io W base (.slice q n c) l ∧ l.length = n
set_option maxHeartbeats 1000000 in
theorem kanswer_any (k f t kind : Int) (vn vo ve vm : Value) (ns ms : List Int) (w : World) (hn : Is w vn ns) (h4 : 4 ≤ ns.length) (hm : Is w vm ms) (hml : ms.length ≤ 1000) :
    Calls Try.prog 28 #[.agg (ntC k f t vn vo ve), .int .i64 kind, vm] w fun e w' => AnP w' w.heap.size kind t f (ns.take 4 ++ ms) e ∧ Below w.heap.size w w' := by
  obtain ⟨q1, c1, e1⟩ := hn.form
  obtain ⟨n, hnn⟩ : ∃ n, ns.length = n := ⟨_, rfl⟩
  rw [hnn] at e1 h4
  subst e1
  obtain ⟨q3, c3, e3⟩ := hm.form
  obtain ⟨m, hmm⟩ : ∃ n, ms.length = n := ⟨_, rfl⟩
  rw [hmm] at e3 hml
  subst e3
  have ht4 : (ns.take 4).length = 4 := by rw [List.length_take]; omega
  go_enter Try.func28, Try.ntmps28
  go_upto_region 1 with fail
  obtain ⟨A, hAe, hB, bA⟩ := blk1 w (ntC k f t (.slice q1 n c1) vo ve) 35
  rw [show w.alloc (.cells _ 35) = A from hAe]
  clear hAe
  have inA := hn.keep bA
  have imA := hm.keep bA
  have d3 := hB.at (i := 3) rfl
  go_upto_region 2 with (first
    | (refine sli_h A rfl rfl 4 rfl rfl rfl h4 inA ?_; intro q2 i2)
    | (go_at_call 24; refine (kclone_any _ (ns.take 4) A i2 (by omega)).mono ?_; rintro e W1 ⟨v1, rfl, O1, b1⟩)
    | (refine app_i A rfl rfl (l := ns.take 4) (m := ms) rfl O1 rfl (imA.keep b1) hmm (by omega) b1 ?_; intro v2 W2 own2 nn2 bA2 gr2 at2; have f2 := (io_of own2).is.form; obtain ⟨q4, c4, e4⟩ := f2; obtain ⟨n4, hn4⟩ : ∃ n, (ns.take 4 ++ ms).length = n := ⟨_, rfl⟩; rw [hn4] at e4; subst e4; have O2 := io_of own2; clear own2 nn2 gr2 at2; go_frame))
  have hB2 := hB.keep bA2
  have y1 := hB2.at (i := 1) rfl
  have y2 := hB2.at (i := 2) rfl
  clear d3
  go_wp2_with (refine bs_nt1 rfl rfl kind t f q4 n4 c4 (by simp only [List.map_toArray, List.map_cons, List.map_nil]; rfl) ?_; intro W3 hB3 b3; go_frame)
  go_ret
  exact ⟨⟨_, q4, n4, c4, rfl, (ab_trans bA bA2).size, hB3, (O2.keep b3).less bA.size, hn4⟩, ab_trans (ab_trans bA bA2) b3⟩
/-- Whether a note asks something of a key's register. -/
def askB (N : Nt) : Prop := (N.k = 1 ∨ N.k = 3) ∧ GoodN N ∧ keyB (N.ns.getD 0 0) = true
end Go.Proofs.Ytlhamckpgijjmaa
namespace Go.Proofs.Ytlhamckpgijjmaa
open Go.RowKit
set_option linter.unusedVariables false
set_option maxRecDepth 100000

def AskP (N : Nt) (e : Ending) : Prop := ∃ b, e = .returned (.bool b) ∧ (b = true ↔ askB N)
theorem good_four {N : Nt} (h : GoodN N) (hk : N.k = 1 ∨ N.k = 3) : 4 ≤ N.ns.length ∧ N.ns.length ≤ 36 ∧ N.os.length = 0 ∧ N.es.length = 0 := by
  have := h.fit
  unfold FitK at this
  omega
theorem eqN2 (w : World) : (binOp .eql 28 (Err 2) .nilIface).run Try.prog w = .ok (.bool false) w := by kernel_rfl
set_option maxHeartbeats 1000000 in
theorem kasks_any (N : Nt) (vn vo ve : Value) (w : World) (h1 : Is w vn N.ns) (h2 : SR 5 k64 w vo N.os) (h3 : SR 76 ek w ve N.es) :
    Calls Try.prog 25 #[ntV N vn vo ve] w fun e w' => AskP N e ∧ Below w.heap.size w w' := by
  have HC : Hid (∀ V, Below w.heap.size w V → Calls Try.prog 40 #[ntV N vn vo ve] V fun e w' => CkP N e ∧ Below V.heap.size V w') := fun V hV => check_any N vn vo ve V (h1.keep hV) (h2.keep hV) (h3.keep hV)
  obtain ⟨k, f, t, ns, os, es⟩ := N
  have HN : Hid (GoodN ⟨k, f, t, ns, os, es⟩ → (k = 1 ∨ k = 3) → 4 ≤ ns.length ∧ ns.length ≤ 36 ∧ os.length = 0 ∧ es.length = 0) := fun h hk => good_four h hk
  dsimp only at h1 HC ⊢
  obtain ⟨q1, c1, e1⟩ := h1.form
  obtain ⟨n, hnn⟩ : ∃ n, ns.length = n := ⟨_, rfl⟩
  rw [hnn] at e1
  subst e1
  obtain ⟨q2, c2, -, -, e2, -⟩ := id h2
  obtain ⟨q3, c3, -, -, e3, -⟩ := id h3
  dsimp only at e2 e3
  generalize hn2 : os.length = n2 at *
  generalize hn3 : es.length = n3 at *
  subst e2
  subst e3
  go_enter Try.func25, Try.ntmps25
  go_upto_region 1 with fail
  obtain ⟨A, hAe, hB, bA⟩ := blk1 w (ntC k f t (.slice q1 n c1) (.slice q2 n2 c2) (.slice q3 n3 c3)) 35
  rw [show w.alloc (.cells _ 35) = A from hAe]
  clear hAe
  have d0 := hB.at (i := 0) rfl
  have d1 := hB.at (i := 1) rfl
  have d2 := hB.at (i := 2) rfl
  have d3 := hB.at (i := 3) rfl
  have d4 := hB.at (i := 4) rfl
  have d5 := hB.at (i := 5) rfl
  by_cases hk : k = 1 ∨ k = 3
  · have HK : Hid (k = 1 ∨ k = 3) := hk
    have z1 : (k != 1 && k != 3) = false := by rcases hk with e | e <;> rw [e] <;> rfl
    clear hk
    go_cut [10] from 3 to 9 (fun s wc => s = .bool false ∧ wc = A)
    case first =>
      by_cases k1 : k = 1
      · have y1 : (k != 1) = false := by rw [k1]; rfl
        clear k1
        go_wp2_with fail
        go_meet
        case rel => exact ⟨rfl, rfl⟩
      · have y1 : (k != 1) = true := by simp [k1]
        have k3 : k = 3 := by have := HK.out; omega
        have y3 : (k != 3) = false := by rw [k3]; rfl
        clear k1 k3
        go_wp2_with fail
        go_meet
        case rel => exact ⟨rfl, rfl⟩
    case rest =>
      obtain ⟨rfl, hA⟩ := hcut
      subst wc
      go_wp2_with fail
      refine (HC.out A bA).mono ?_
      rintro e W1 ⟨hck, b1⟩
      have i1 := h1.keep (ab_trans bA b1)
      have m3 := (hB.keep b1).at (i := 3) rfl
      by_cases hg : GoodN ⟨k, f, t, ns, os, es⟩
      · obtain rfl := hck.1 hg
        have E1 := eqNN
        have h4 := (HN.out hg HK.out).1
        rw [hnn] at h4
        have h0i : (0 : Int) < (n : Int) := by omega
        have h0n : 0 < n := by omega
        obtain ⟨g0, o0, hq0, hg0, row0⟩ := i1.at (by omega)
        obtain ⟨x0, hx0⟩ : ∃ x, ns[0]? = some x := ⟨ns[0]'(by omega), List.getElem?_eq_getElem _⟩
        have hd0 : ns.getD 0 0 = x0 := by rw [List.getD_eq_getElem?_getD, hx0]; rfl
        have m0 := row0 0 x0 hx0
        rw [Nat.add_zero] at m0
        have hl1 := i1.len
        have hc1 := hl1.2.1
        have hc2 := hl1.2.2
        subst hq0
        have HG : Hid (keyB x0 = true ↔ askB ⟨k, f, t, ns, os, es⟩) := by
          unfold askB
          dsimp only
          rw [hd0]
          exact ⟨fun h => ⟨HK.out, hg, h⟩, fun h => h.2.2⟩
        clear hck hg hd0 hx0 hl1 row0 d0 d1 d2 d3 d4 d5
        go_wp2_with fail
        refine (iskey_any x0 _).mono ?_
        rintro e W1 ⟨rfl, rfl⟩
        go_wp2_with fail
        go_ret
        exact ⟨⟨_, rfl, HG.out⟩, ab_trans bA b1⟩
      · obtain rfl := hck.2 hg
        have E1 := eqN2
        have HG : Hid (¬ askB ⟨k, f, t, ns, os, es⟩) := fun h => hg h.2.1
        clear hck hg d0 d1 d2 d3 d4 d5
        go_wp2_with fail
        go_ret
        exact ⟨⟨false, rfl, fun h => (by cases h), fun h => absurd h HG.out⟩, ab_trans bA b1⟩
  · have k1 : (k != 1) = true := by simp only [bne_iff_ne, ne_eq]; omega
    have k3 : (k != 3) = true := by simp only [bne_iff_ne, ne_eq]; omega
    have HG : Hid (¬ askB ⟨k, f, t, ns, os, es⟩) := fun h => hk h.1
    clear hk
    go_wp2_with fail
    go_ret
    exact ⟨⟨false, rfl, fun h => (by cases h), fun h => absurd h HG.out⟩, bA⟩
end Go.Proofs.Ytlhamckpgijjmaa
namespace Go.Proofs.Ytlhamckpgijjmaa
open Go.RowKit Go.Shelf
set_option linter.unusedVariables false

theorem isl4n (a b c d : Int) (w : World) : (Instr.buildSlice 31 4 #[(0, .int .i64 a), (1, .int .i64 b), (2, .int .i64 c), (3, .int .i64 d)]).run Try.prog w = .ok (.slice (some ⟨w.heap.size, 0, none⟩) 4 4) (w.alloc (.cells (ints [a, b, c, d]).toArray 3)) := by kernel_rfl
theorem isl5n (a b c d e : Int) (w : World) : (Instr.buildSlice 31 5 #[(0, .int .i64 a), (1, .int .i64 b), (2, .int .i64 c), (3, .int .i64 d), (4, .int .i64 e)]).run Try.prog w = .ok (.slice (some ⟨w.heap.size, 0, none⟩) 5 5) (w.alloc (.cells (ints [a, b, c, d, e]).toArray 3)) := by kernel_rfl
theorem ent_cell {W : World} {b q : Nat} {e : Nat → Int} (h : W.rangeAt b q (EA e).toList) : W.rangeAt b (q + 2) (CA (cE e)).toList := by
  intro i v hv
  have hi : i < 74 := by have := (List.getElem?_eq_some_iff.1 hv).1; simpa [CA] using this
  have e1 : (CA (cE e)).toList[i]? = some (.int (ck i) (cE e i)) := by simp [CA, hi]
  rw [e1] at hv
  cases hv
  have := h (2 + i) _ (AG_at 76 ek e (2 + i) (by omega))
  have e2 : ek (2 + i) = ck i := by
    unfold ek ck
    by_cases h2 : i = 2
    · subst h2; rfl
    · rw [if_neg (by omega), if_neg h2]
  rw [e2] at this
  rw [Nat.add_assoc]
  exact this
theorem blk_range {W : World} {b : Nat} {vs : Array Value} {t : TypeId} (h : Blk W b vs t) : W.rangeAt b 0 vs.toList := by
  intro i v hv
  rw [Nat.zero_add]
  exact h.at (by simpa using hv)
theorem EA_two {W : World} {b q : Nat} {e : Nat → Int} (h : W.rangeAt b q (EA e).toList) : W.cell? ⟨b, q, none⟩ = some (.int .i64 (e 0)) ∧ W.cell? ⟨b, q + 1, none⟩ = some (.int .i64 (e 1)) :=
  ⟨h 0 _ (AG_at 76 ek e 0 (by omega)), h 1 _ (AG_at 76 ek e 1 (by omega))⟩
/-- A block beside an own row. -/
theorem own_other {W : World} {base b n : Nat} {v : Value} {l : List Int} {e : TypeId} {vs : Array Value} {t : TypeId} (h : W.ownsRow base e 1 v n (ints l)) (hB : Blk W b vs t) (hn : t ≠ e) : v.ownBlock ≠ some b := by
  intro hv
  rcases h.2 with ⟨h2, _⟩ | ⟨g, cap, cur, h2, hb, hg, _⟩
  · rw [h2] at hv; cases hv
  · rw [h2] at hv
    have hv' : g = b := by simpa [Value.ownBlock] using hv
    subst hv'
    unfold Blk at hB
    rw [hg] at hB
    injection hB with hB
    injection hB with _ h2 _
    exact hn h2.symm
theorem blk_grown {W W' : World} {b : Nat} {vs : Array Value} {t : TypeId} {r : Option Nat} (hB : Blk W b vs t) (hg : W.grownBy W' r) (hn : r ≠ some b) : Blk W' b vs t :=
  (hg.block b hB.lt (fun h => hn h.symm)).trans hB
section
variable {ops : Array Oper} {rest : List Oper} {o : Oper} {a : Act} {w : World} {Q : Exit → Act → World → Prop}
theorem st_ent (hgd : o.guard = none) {x y : Operand} (ho : o.op = .store 97 x y) {b : Nat} {c d : Nat → Int} {t : TypeId} (hB : Blk w b (EA d) t) (hx : a.eval x = .pointer (some ⟨b, 0, none⟩)) (hy : a.eval y = .agg (EA c))
    (h : ∀ W', Blk W' b (EA c) t → Chg b w W' → wpList Try.prog ops Q rest (a.put o.dst undef) W') : wpList Try.prog ops Q (o :: rest) a w :=
  st_blk hgd ho hB hx hy (info_ent c) (by rw [AG_size, AG_size]) (by rw [Array.all_eq_true']; intro x hx; exact AG_one 76 ek c x (by simpa using hx)) h
theorem ld_cellA (hgd : o.guard = none) {x : Operand} (ho : o.op = .load 95 x) {b q : Nat} {c : Nat → Int} (hr : w.rangeAt b q (CA c).toList) (hx : a.eval x = .pointer (some ⟨b, q, none⟩))
    (h : wpList Try.prog ops Q rest (a.put o.dst (.agg (CA c))) w) : wpList Try.prog ops Q (o :: rest) a w := ld_cell_mid hgd ho hr hx h
end

end Go.Proofs.Ytlhamckpgijjmaa
