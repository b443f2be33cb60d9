/-
  A watch with blocks that are barred: Saw; what comes in.
-/
import Derived.Test.YtddpdmolknfjaaaRtC
namespace Go.Proofs.Ytddpdmolknfjaaa
open Go.RowKit
set_option linter.unusedVariables false
set_option maxRecDepth 100000

/-- A watch at block b, whose numbers lie in no block of G. -/
structure Wg (G : Nat → Prop) (W : World) (base b : Nat) (S : Wt) : Prop where
  mem : ∃ q c, Blk W b (wtC S (.slice q S.vl.length c)) 75 ∧ Ih G W base (.slice q S.vl.length c) S.vl
  len : S.vl.length ≤ 100000
  ge : base ≤ b
  age : 0 ≤ S.ag ∧ S.ag ≤ 1000
section
variable {G : Nat → Prop} {W W' : World} {base b : Nat} {S : Wt}
theorem Wg.wh (h : Wg G W base b S) : Wh W base b S := by
  obtain ⟨q, c, hB, hO⟩ := h.mem
  exact ⟨⟨q, c, hB, hO.1⟩, h.len, h.ge, h.age⟩
theorem Wh.g (h : Wh W base b S) (hG : ∀ k, G k → W.heap.size ≤ k) : Wg G W base b S := by
  obtain ⟨q, c, hB, hO⟩ := h.mem
  exact ⟨⟨q, c, hB, hO, fun k hk hg => by have := (hO.lt k hk).2; have := hG k hg; omega⟩, h.len, h.ge, h.age⟩
theorem Wg.keep (h : Wg G W base b S) (hb : Below W.heap.size W W') : Wg G W' base b S := by
  obtain ⟨q, c, hB, hO⟩ := h.mem
  exact ⟨⟨q, c, hB.keep hb, hO.keep hb⟩, h.len, h.ge, h.age⟩
theorem Wg.frm {X : Nat → Prop} (h : Wg G W base b S) (hf : Frm X W W') (h1 : ∀ k, X k → ¬ kindR W k 75) (h3 : ∀ k, X k → kindR W k 3 → G k) : Wg G W' base b S := by
  obtain ⟨q, c, hB, hO⟩ := h.mem
  exact ⟨⟨q, c, hB.frm hf (fun e => h1 b e hB.kindR), hO.frm hf h3⟩, h.len, h.ge, h.age⟩
theorem Wh.kind (h : Wh W base b S) : kindR W b 75 := by
  obtain ⟨q, c, hB, hO⟩ := h.mem
  exact hB.kindR
end
set_option maxHeartbeats 1000000 in
theorem tsaw_g {G : Nat → Prop} (base b : Nat) (S : Wt) (v : Value) (l : List Int) (w : World) (hW : Wg G w base b S) (hG : ∀ k, G k → k < w.heap.size) (hv : Is w v l) (hl : l.length ≤ 100000) :
    Calls Try.prog 17 #[wptr b, v] w fun e w' => e = .returned (.tuple #[]) ∧ Wg G w' base b (sawW S l) ∧ Frm (fun k => k = b) w w' := by
  obtain ⟨q, c, hB, hO⟩ := hW.mem
  have y3 : w.cell? ⟨b, 3, none⟩ = some (.bool S.sn) := hB.at rfl
  have y4 : w.cell? ⟨b, 4, none⟩ = some (.slice q S.vl.length c) := hB.at rfl
  obtain ⟨qv, cv, e⟩ := hv.form
  subst e
  obtain ⟨n, hn⟩ : ∃ n, l.length = n := ⟨_, rfl⟩
  rw [hn] at hv hl ⊢
  go_enter Try.func17, Try.ntmps17
  cases hs : S.sn
  · rw [hs] at y3
    have HS : Hid (sawW S l = { S with sn := true, vl := l, ag := 0 }) := by show sawW S l = _; unfold sawW; rw [hs]; rfl
    go_upto_region 1 with fail
    clear y3 y4 hs
    have hX := hB
    have hvX := hv
    have hwX := Below.refl w.heap.size w
    have hlt := hX.lt
    go_wp2_with (refine app_i w rfl rfl (l := []) (m := l) rfl (own_nil _ _) rfl hvX hn (by omega) (Below.refl _ _) ?_; intro v' W2 hown hnil b2 hg hat; obtain ⟨q2, c2, e2⟩ := (io_of hown).is.form; rw [List.nil_append] at e2; subst e2; have f3 := (hX.keep b2).frozen 3; have f4 := (hX.keep b2).frozen 4; have f5 := (hX.keep b2).frozen 5; have hlt2 := b2.size; have p3 : W2.cell? ⟨b, 3, none⟩ = some (.bool S.sn) := (hX.keep b2).at rfl; have p4 : W2.cell? ⟨b, 4, none⟩ = some (.slice q S.vl.length c) := (hX.keep b2).at rfl; have p5 : W2.cell? ⟨b, 5, none⟩ = some (.int .i64 S.ag) := (hX.keep b2).at rfl; clear hnil hat hg; go_frame)
    go_end0
    subst hn
    have hB2 := hX.keep b2
    have HB5 := ((hB2.set 3 (.bool true)).set 4 (.slice q2 l.length c2)).set 5 (.int .i64 0)
    have C5 := ((chg_set W2 b 3 (.bool true)).trans (chg_set _ b 4 (.slice q2 l.length c2))).trans (chg_set _ b 5 (.int .i64 0))
    have hO2 : Io W2 w.heap.size (.slice q2 l.length c2) l := io_of (l := l) hown
    rw [HS.out]
    refine ⟨rfl, ⟨⟨q2, c2, HB5, ih_new (own_chgT hO2 C5 (fun e => absurd (hB2.kindR.uniq (own_kindR hO2 e)) (by decide))) (fun k hk => by have := hG k hk; have := hwX.size; omega) (Nat.le_trans hW.ge (Nat.le_of_lt hlt))⟩, by dsimp only; omega, hW.ge, by dsimp only; omega⟩, ?_⟩
    exact (frm_below (ab_trans hwX b2)).trans (frm_chg C5 rfl)
  · rw [hs] at y3
    go_wp2_with fail
    refine (gsame_any _ _ l S.vl _ hv hO.1.is).mono ?_
    rintro e W1 ⟨rfl, b1⟩
    by_cases he : l = S.vl
    · have HS : Hid (sawW S l = S) := by show sawW S l = _; unfold sawW; rw [hs, decide_eq_true he]; rfl
      rw [decide_eq_true he]
      clear he y3 y4 hs
      go_wp2_with fail
      refine bodyPost_ret (results_none rfl _ _ _) rfl ?_
      rw [HS.out]
      exact ⟨rfl, hW.keep b1, frm_below b1⟩
    have HS : Hid (sawW S l = { S with sn := true, vl := l, ag := 0 }) := by show sawW S l = _; unfold sawW; rw [decide_eq_false he, Bool.and_false]; rfl
    rw [decide_eq_false he]
    clear he
    go_upto_region 1 with fail
    clear y3 y4 hs
    have hX := hB.keep b1
    have hvX := hv.keep b1
    have hwX := b1
    have hlt := hX.lt
    go_wp2_with (refine app_i W1 rfl rfl (l := []) (m := l) rfl (own_nil _ _) rfl hvX hn (by omega) (Below.refl _ _) ?_; intro v' W2 hown hnil b2 hg hat; obtain ⟨q2, c2, e2⟩ := (io_of hown).is.form; rw [List.nil_append] at e2; subst e2; have f3 := (hX.keep b2).frozen 3; have f4 := (hX.keep b2).frozen 4; have f5 := (hX.keep b2).frozen 5; have hlt2 := b2.size; have p3 : W2.cell? ⟨b, 3, none⟩ = some (.bool S.sn) := (hX.keep b2).at rfl; have p4 : W2.cell? ⟨b, 4, none⟩ = some (.slice q S.vl.length c) := (hX.keep b2).at rfl; have p5 : W2.cell? ⟨b, 5, none⟩ = some (.int .i64 S.ag) := (hX.keep b2).at rfl; clear hnil hat hg; go_frame)
    go_end0
    subst hn
    have hB2 := hX.keep b2
    have HB5 := ((hB2.set 3 (.bool true)).set 4 (.slice q2 l.length c2)).set 5 (.int .i64 0)
    have C5 := ((chg_set W2 b 3 (.bool true)).trans (chg_set _ b 4 (.slice q2 l.length c2))).trans (chg_set _ b 5 (.int .i64 0))
    have hO2 : Io W2 W1.heap.size (.slice q2 l.length c2) l := io_of (l := l) hown
    rw [HS.out]
    refine ⟨rfl, ⟨⟨q2, c2, HB5, ih_new (own_chgT hO2 C5 (fun e => absurd (hB2.kindR.uniq (own_kindR hO2 e)) (by decide))) (fun k hk => by have := hG k hk; have := hwX.size; omega) (Nat.le_trans hW.ge (Nat.le_of_lt hlt))⟩, by dsimp only; omega, hW.ge, by dsimp only; omega⟩, ?_⟩
    exact (frm_below (ab_trans hwX b2)).trans (frm_chg C5 rfl)
/-- A call that comes in. -/
structure OpX where
  kd : Int
  vv : Value
  vl : List Int
  nm : Int
structure OpXAt (W : World) (g o : Nat) (x : OpX) : Prop where
  c0 : W.cell? ⟨g, o, none⟩ = some (.int .i64 x.kd)
  c1 : W.cell? ⟨g, o + 1, none⟩ = some x.vv
  c2 : W.cell? ⟨g, o + 2, none⟩ = some (.int .i64 x.nm)
  is : Is W x.vv x.vl
structure OpXRow (W : World) (q : Option Addr) (n cap g off : Nat) (os : List OpX) : Prop where
  len : os.length = n
  fits : n ≤ cap
  max : cap ≤ 9223372036854775807
  ptr : 0 < n → q = some ⟨g, off, none⟩
  lt : 0 < n → g < W.heap.size
  row : ∀ j x, os[j]? = some x → OpXAt W g (off + j * 3) x
section
variable {H : Type} {enc : TypeId × Value → H} {w : World} {base : Nat} {spare : Nat → Bool} {held : Bool}
theorem nums13 {fuel : Nat} {cs : List Value} {x : DataW H × List MemPlace} (hf : DataW.trod enc Try.prog w base spare held fuel 27 cs = some x) :
    ∃ q n cap l, cs = [.slice q n cap] ∧ Is w (.slice q n cap) l := by
  obtain ⟨q, g, off, len, cap, l, e, hl, hk, hm, hp, hg, hc⟩ := rows_of (n := 1) (D := 8) (fun _ => .i64) Try.underlying27 (by kernel_rfl) (by omega) (kinds_of (by kernel_rfl)) hf
  exact ⟨q, len, cap, _, e, (is_rows hl hk hm hp hg hc).1⟩
set_option maxHeartbeats 1000000 in
theorem ops13 {fuel : Nat} {cs : List Value} {x : DataW H × List MemPlace} (hf : DataW.trod enc Try.prog w base spare held fuel 22 cs = some x) :
    ∃ (q : Option Addr) (n cap g off : Nat) (os : List OpX), cs = [.slice q n cap] ∧ OpXRow w q n cap g off os := by
  rcases Deep.open_slice Try.underlying22 hf with ⟨hcs, _⟩ | ⟨a', len, cap, m, n', D', Pl, hcs, hb, hl, hm, hmm, hx, hel⟩
  · exact ⟨none, 0, 0, 0, 0, [], hcs, rfl, by omega, by omega, fun h => absurd h (by omega), fun h => absurd h (by omega), fun j c hc => by simp at hc⟩
  · have hle : len ≤ m := by rw [hmm]; split <;> omega
    have key : ∀ j, j < len → ∃ x : OpX, w.cell? ((a'.add (j * 3)).add 0) = some (.int .i64 x.kd) ∧ w.cell? ((a'.add (j * 3)).add 1) = some x.vv ∧ w.cell? ((a'.add (j * 3)).add 2) = some (.int .i64 x.nm) ∧ Is w x.vv x.vl := by
      intro j hj
      obtain ⟨cs', h1, h2⟩ := hel j (by omega)
      rw [show Try.prog.cellsOf 69 = 3 by kernel_rfl] at h1
      obtain ⟨_, h3, h4⟩ := World.cells?_some h1
      obtain ⟨xs, m', _, hxe, _, hxl, hxx⟩ := DataW.trod_struct Try.underlying69 h2
      have hf0 := hxx 0 _ rfl
      have hf1 := hxx 1 _ rfl
      have hf2 := hxx 2 _ rfl
      have hsz : xs.length = 3 := hxl
      rw [List.getElem?_eq_getElem (by omega)] at hf0 hf1 hf2
      obtain ⟨e0, e1, e2, rfl⟩ : ∃ e0 e1 e2, cs' = [e0, e1, e2] := by
        match cs', h3 with
        | [e0, e1, e2], _ => exact ⟨e0, e1, e2, rfl⟩
      obtain ⟨k0, rfl, -⟩ := i64_of (e := e0) hf0
      obtain ⟨q1, n1, c1, l1, ee1, hs1⟩ := nums13 hf1
      have h9 : [e1] = [Value.slice q1 n1 c1] := ee1
      obtain rfl : e1 = .slice q1 n1 c1 := by simpa using h9
      obtain ⟨k2, rfl, -⟩ := i64_of (e := e2) hf2
      exact ⟨⟨k0, .slice q1 n1 c1, l1, k2⟩, h4 0 (by omega), h4 1 (by omega), h4 2 (by omega), hs1⟩
    haveI : Inhabited OpX := ⟨⟨0, .nilIface, [], 0⟩⟩
    obtain ⟨L, hL⟩ := Deep.choose_lt key
    have hspot : 0 < len → a'.spot = none := fun h0 => by
      have h1 := (hL 0 h0).1
      have := spot_of_cell h1
      rw [Nat.zero_mul] at this
      simpa [Addr.add] using this
    refine ⟨some a', len, cap, a'.block, a'.off, (List.range len).map L, hcs, ⟨by simp, hl, hm, fun h0 => ?_, fun h0 => ?_, fun j x hx => ?_⟩⟩
    · have hs := hspot h0
      obtain ⟨b, o, s⟩ := a'; cases hs; rfl
    · have := World.block_lt_of_cell? w _ (hL 0 h0).1
      simpa [Addr.add] using this
    · have hj : j < len := by have := (List.getElem?_eq_some_iff.1 hx).1; simpa using this
      have hxj : x = L j := by simp [hj] at hx; exact hx.symm
      subst hxj
      have hs := hspot (by omega)
      obtain ⟨h0_, h1_, h2_, s0_⟩ := hL j hj
      rw [add_plain _ hs, add_plain _ rfl] at h0_ h1_ h2_
      exact ⟨h0_, h1_, h2_, s0_⟩
set_option maxHeartbeats 1000000 in
theorem open_played13 {r : Reach} {b0 : Nat} {v : Value} {d : DataW H} {p : List MemPlace} (hv : Value.okWide Try.prog w r b0 24 v) (h : DataW.Trod enc Try.prog w base spare held 24 v d p) :
    ∃ (nd lf tk : Int) (q : Option Addr) (n cap g off : Nat) (os : List OpX), v = .agg #[.int .i64 nd, .int .i64 lf, .int .i64 tk, .slice q n cap] ∧ OpXRow w q n cap g off os := by
  obtain ⟨cs, rfl, hs, m, xs, rfl, hx⟩ := dy_struct (n := 4) Try.underlying24 (by kernel_rfl) hv h
  obtain ⟨x0, g0, f0⟩ := hx 0 _ rfl
  obtain ⟨x1, g1, f1⟩ := hx 1 _ rfl
  obtain ⟨x2, g2, f2⟩ := hx 2 _ rfl
  obtain ⟨x3, g3, f3⟩ := hx 3 _ rfl
  obtain ⟨e0, e1, e2, e3, rfl⟩ : ∃ e0 e1 e2 e3, cs = #[e0, e1, e2, e3] := by
    refine ⟨cs[0], cs[1], cs[2], cs[3], ?_⟩
    apply Array.ext
    · simpa using hs
    · intro i h1 h2
      have : i = 0 ∨ i = 1 ∨ i = 2 ∨ i = 3 := by omega
      rcases this with rfl | rfl | rfl | rfl <;> rfl
  obtain ⟨k0, rfl, -⟩ := i64_of (e := e0) f0
  obtain ⟨k1, rfl, -⟩ := i64_of (e := e1) f1
  obtain ⟨k2, rfl, -⟩ := i64_of (e := e2) f2
  obtain ⟨q, n, c, g, off, os, e, hr⟩ := ops13 f3
  have h7 : [e3] = [Value.slice q n c] := e
  obtain rfl : e3 = .slice q n c := by simpa using h7
  exact ⟨k0, k1, k2, q, n, c, g, off, os, rfl, hr⟩
end
end Go.Proofs.Ytddpdmolknfjaaa
