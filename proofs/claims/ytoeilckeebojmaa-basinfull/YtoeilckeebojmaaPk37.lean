/-
  Basin's past, lift, Cell.
  Basin's drop: the cells ahead of their lanes' bases are gone.
-/
import Derived.Test.YtoeilckeebojmaaPk36
namespace Go.Proofs.Ytoeilckeebojmaa
open Go.RowKit Go.Maps
set_option linter.unusedVariables false
set_option maxRecDepth 100000

/-- What past reads of a basin. -/
structure Pw (W : World) (K : Bkk) (S : Bsn) : Prop where
  blk : Blk W K.b (bsC K S.sh S.mo S.fl.length S.ba.length) 93
  be : Rw E2 38 W K.gb K.cb S.ba
theorem Bq.pw {W : World} {B : Nat} {K : Bkk} {S : Bsn} (h : Bq W B K S) : Pw W K S := ⟨h.blk, h.be⟩
theorem Pw.keep {W W' : World} {K : Bkk} {S : Bsn} (h : Pw W K S) (hb : Below W.heap.size W W') : Pw W' K S := ⟨h.blk.keep hb, h.be.keep hb⟩
theorem Pw.frm {W W' : World} {K : Bkk} {S : Bsn} {X : Nat → Prop} (h : Pw W K S) (hf : Frm X W W') (h1 : ¬ X K.b) (h2 : ¬ X K.gb) : Pw W' K S := ⟨h.blk.frm hf h1, rw_at h.be (hf.other _ h.be.lt h2)⟩
theorem pasB_at {ba : List (Int × Int)} {k : Kyy} {i : Nat} {c : Int × Int} (hi : k.1 = (i : Int)) (hc : ba[i]? = some c) : pasB ba k = pl k.2.1 k.2.2 c.1 c.2 := by
  unfold pasB
  rw [hi, Int.toNat_natCast, hc]
set_option maxHeartbeats 1000000 in
theorem bapast_any {K : Bkk} {S : Bsn} (k : Kyy) (w : World) (h : Pw w K S) (h0 : 0 ≤ k.1) (h1 : k.1 < (S.ba.length : Int)) :
    Calls Try.prog 52 #[bptr K, kyV k] w fun e w' => e = .returned (.bool (pasB S.ba k)) ∧ Below w.heap.size w w' := by
  obtain ⟨i, hi⟩ : ∃ i : Nat, k.1 = (i : Int) := ⟨k.1.toNat, by omega⟩
  obtain ⟨c, hc⟩ : ∃ c, S.ba[i]? = some c := ⟨S.ba[i]'(by omega), List.getElem?_eq_getElem (by omega)⟩
  rw [pasB_at hi hc]
  obtain ⟨k0, k1, k2⟩ := k
  dsimp only at hi h0 h1
  subst hi
  unfold kyV
  obtain ⟨A, hE, hX, hw⟩ := blk1 w #[.int .i64 (i : Int), .int .i64 k1, .int .i64 k2] 47
  have hA := h.keep hw
  have y0 : ∀ y : Cls A, y.val.cell? ⟨w.heap.size, 0, none⟩ = some (.int .i64 (i : Int)) := fun y => (hX.keep y.prop).at rfl
  have y1 : ∀ y : Cls A, y.val.cell? ⟨w.heap.size, 1, none⟩ = some (.int .i64 k1) := fun y => (hX.keep y.prop).at rfl
  have y2 : ∀ y : Cls A, y.val.cell? ⟨w.heap.size, 2, none⟩ = some (.int .i64 k2) := fun y => (hX.keep y.prop).at rfl
  have x4 : ∀ y : Cls A, y.val.cell? ⟨K.b, 4, none⟩ = some (.slice (some ⟨K.gb, 0, none⟩) S.ba.length K.cb) := fun y => (hA.blk.keep y.prop).at rfl
  have z0 : ∀ y : Cls A, y.val.cell? ⟨K.gb, i * 2, none⟩ = some (.int .i64 c.1) := fun y => (hA.be.keep y.prop).cell (i := 0) hc rfl
  have z1 : ∀ y : Cls A, y.val.cell? ⟨K.gb, i * 2 + 1, none⟩ = some (.int .i64 c.2) := fun y => (hA.be.keep y.prop).cell (i := 1) hc rfl
  clear h hA hX hc
  generalize S.ba.length = n at *
  obtain ⟨b, m, gf, cf, gb, cb, vr⟩ := K
  obtain ⟨c0, c1⟩ := c
  try dsimp only at *
  go_enter Try.func52, Try.ntmps52
  go_upto_region 1 with fail
  have HZ := cls_some A
  refine wp_region_below (by kernel_rfl) (by kernel_rfl) ?_
  repeat (go_big_quiet_step (first | (go_at_call 51; exact calls_below (pless_any _ _ _ _ _))))
  refine wpQuiet_nil ?_
  rintro _ ⟨y, rfl⟩
  go_wp2_with fail
  go_ret
  exact ⟨rfl, ab_trans hw y.prop⟩
/-- One of them into a row, at one operation. -/
theorem stEW {P : Program} {α : Type} {E : En α} {e ty : TypeId} {o : Oper} {a : Act} {w : World} {K : Act → World → Prop} {Q : Exit → Act → World → Prop} (d : Option Tmp) (hd : o.dst = d) {x y : Operand} (ho : o.op = .store ty x y) {g cap i off : Nat} {L : List α} (h : Rw E e w g cap L) (hi : i < L.length) (c : α) (arr : Array Value) (harr : arr.toList = E.f c)
    (hoff : off = i * E.k) (hx : a.eval x = .pointer (some ⟨g, off, none⟩)) (hy : a.eval y = .agg arr) (hinf : (P.info? ty).map (·.size) = some arr.size)
    (hK : ∀ W', Rw E e W' g cap (L.set i c) → Chg g w W' → K (a.put d undef) W') : o.wp P a w K Q := by
  subst hd
  obtain ⟨h1, h2, h3⟩ := h.stored hi c
  have hs : arr.size = E.k := by rw [← Array.length_toList, harr, E.len]
  subst hoff
  refine wp_store_mid ty x y ho g (i * E.k) arr hx hy (by rw [hs]; exact h3) hinf ?_ ?_
  · rw [← Array.all_toList, harr]
    exact List.all_eq_true.2 (E.one c)
  · rw [harr]
    exact hK _ h1 h2
theorem mxP_yes {c p : Int × Int} (h : pl c.1 c.2 p.1 p.2 = true) : mxP c p = p := by unfold mxP; rw [if_pos h]
theorem mxP_no {c p : Int × Int} (h : pl c.1 c.2 p.1 p.2 = false) : mxP c p = c := by unfold mxP; rw [if_neg (by rw [h]; simp)]
theorem lifB_at {S : Bsn} {i : Nat} {c p : Int × Int} (hc : S.ba[i]? = some c) : lifB S i p = { S with ba := S.ba.set i (mxP c p) } := by unfold lifB; rw [hc]
theorem set_same {α : Type} {l : List α} {i : Nat} {c : α} (hc : l[i]? = some c) : l.set i c = l := by
  obtain ⟨h1, h2⟩ := List.getElem?_eq_some_iff.1 hc
  rw [← h2]
  exact List.set_getElem_self h1
set_option maxHeartbeats 1000000 in
theorem balift_any {B : Nat} {K : Bkk} {S : Bsn} (i : Nat) (p : Int × Int) (w : World) (h : Bq w B K S) (hi : i < S.ba.length) (hp : J64 p.1 ∧ J64 p.2) :
    Calls Try.prog 35 #[bptr K, .int .i64 (i : Int), Plc p.1 p.2] w fun e w' => e = .returned (.tuple #[]) ∧ Bq w' B K (lifB S i p) ∧ Frm (bkB K) w w' := by
  obtain ⟨c, hc⟩ : ∃ c, S.ba[i]? = some c := ⟨S.ba[i], List.getElem?_eq_getElem hi⟩
  obtain ⟨A, hE, hX, hw⟩ := blk1 w #[.int .i64 p.1, .int .i64 p.2] 38
  have hA := h.keep hw
  have hOK := okb_lif h.ok (i := i) hp
  have y0 : ∀ y : Cls A, y.val.cell? ⟨w.heap.size, 0, none⟩ = some (.int .i64 p.1) := fun y => (hX.keep y.prop).at rfl
  have y1 : ∀ y : Cls A, y.val.cell? ⟨w.heap.size, 1, none⟩ = some (.int .i64 p.2) := fun y => (hX.keep y.prop).at rfl
  have x4 : ∀ y : Cls A, y.val.cell? ⟨K.b, 4, none⟩ = some (.slice (some ⟨K.gb, 0, none⟩) S.ba.length K.cb) := fun y => (hA.blk.keep y.prop).at rfl
  have z0 : ∀ y : Cls A, y.val.cell? ⟨K.gb, i * 2, none⟩ = some (.int .i64 c.1) := fun y => (hA.be.keep y.prop).cell (i := 0) hc rfl
  have z1 : ∀ y : Cls A, y.val.cell? ⟨K.gb, i * 2 + 1, none⟩ = some (.int .i64 c.2) := fun y => (hA.be.keep y.prop).cell (i := 1) hc rfl
  have hli : (i : Int) < (S.ba.length : Int) := by omega
  have HL : Hid (∀ V, Below A.heap.size A V → Bq V B K S ∧ Blk V w.heap.size #[.int .i64 p.1, .int .i64 p.2] 38 ∧ Below w.heap.size w V) := fun V hb => ⟨hA.keep hb, hX.keep hb, ab_trans hw hb⟩
  have HC : Hid (lifB S i p = { S with ba := S.ba.set i (mxP c p) }) := lifB_at hc
  have HS : Hid (S.ba[i]? = some c) := hc
  have hib : Hid (i < S.ba.length) := hi
  have HG : Hid (K.gb < w.heap.size) := h.be.lt
  clear h hA hX hc hi
  generalize hn : S.ba.length = n at *
  have hNb : Hid (S.ba.length = n) := hn
  clear hn
  obtain ⟨b, m, gf, cf, gb, cb, vr⟩ := K
  obtain ⟨c0, c1⟩ := c
  obtain ⟨p0, p1⟩ := p
  try dsimp only at *
  go_enter Try.func35, Try.ntmps35
  go_upto_region 1 with fail
  have HZ := cls_some A
  refine wp_region_below (by kernel_rfl) (by kernel_rfl) ?_
  repeat (go_big_quiet_step (first | (go_at_call 51; exact calls_below (pless_any _ _ _ _ _))))
  refine wpQuiet_nil ?_
  rintro V ⟨⟨V', hV⟩, rfl⟩
  obtain ⟨hQ, hP, hwV⟩ := HL.out V hV
  clear y0 y1 x4 z0 z1 HZ HL hE
  cases hpl : pl c0 c1 p0 p1
  · have HM : Hid (lifB S i (p0, p1) = S) := by
      show _ = _
      rw [HC.out, mxP_no hpl, set_same HS.out]
    go_wp2_with fail
    exact bodyPost_end (results_none rfl _ _ _) rfl ⟨rfl, by rw [HM.out]; exact hQ, frm_below hwV⟩
  · have HM : Hid (lifB S i (p0, p1) = { S with ba := S.ba.set i (p0, p1) }) := by
      show _ = _
      rw [HC.out, mxP_yes hpl]
    have x4 : V.cell? ⟨b, 4, none⟩ = some (.slice (some ⟨gb, 0, none⟩) n cb) := by rw [← hNb.out]; exact hQ.blk.at rfl
    have y0 : V.cell? ⟨w.heap.size, 0, none⟩ = some (.int .i64 p0) := hP.at rfl
    have y1 : V.cell? ⟨w.heap.size, 1, none⟩ = some (.int .i64 p1) := hP.at rfl
    have HBN : Hid (Blk V b (bsC ⟨b, m, gf, cf, gb, cb, vr⟩ S.sh S.mo S.fl.length S.ba.length) 93) := hQ.blk
    go_upto_region 2 with fail
    refine wp_region_held_drew (S := fun w' => w'.cell? ⟨b, 4, none⟩ = some (.slice (some ⟨gb, 0, none⟩) n cb) ∧ w'.cell? ⟨w.heap.size, 0, none⟩ = some (.int .i64 p0) ∧ w'.cell? ⟨w.heap.size, 1, none⟩ = some (.int .i64 p1)) (by kernel_rfl) ⟨x4, y0, y1⟩ (fun hHeld => ?_)
    have bV : Below V.heap.size V V.drew := ab_drew (Below.refl _ _)
    have hQ2 := hQ.keep bV
    have hP2 := hP.keep bV
    have hw2 := ab_trans hwV bV
    clear hQ hP hwV x4 y0 y1 bV hV
    generalize V.drew = V2 at *
    refine takeH (i := 0) (some 15) rfl rfl (by kernel_rfl) (by kernel_rfl) (by kernel_rfl) (fun _ _ _ h => h) (by rfl) (fun w hSw => by (try dsimp only at hSw); go_simp; try rfl) hHeld ?_
    go_frame
    refine takeH (i := 1) (some 16) rfl rfl (by kernel_rfl) (by kernel_rfl) (by kernel_rfl) (fun _ _ _ h => h) (by rfl) (fun w hSw => by (try dsimp only at hSw); go_simp; try rfl) hHeld ?_
    go_frame
    refine takeH (i := 2) (some 17) rfl rfl (by kernel_rfl) (by kernel_rfl) (by kernel_rfl) (fun _ _ _ h => h) (by rfl) (fun w hSw => by (try dsimp only at hSw); go_simp; try rfl) hHeld ?_
    go_frame
    refine takeH (i := 3) (some 18) rfl rfl (by kernel_rfl) (by kernel_rfl) (by kernel_rfl) (fun _ _ _ h => h) (by rfl) (fun w hSw => by (try dsimp only at hSw); (obtain ⟨q4, q0, q1⟩ := hSw; go_simp; try rfl)) hHeld ?_
    go_frame
    refine takeH (i := 4) (some 19) rfl rfl (by kernel_rfl) (by kernel_rfl) (by kernel_rfl) (fun _ _ _ h => h) (by rfl) (fun w hSw => by (try dsimp only at hSw); go_simp; try rfl) hHeld ?_
    go_frame
    refine takeH (i := 5) (some 20) rfl rfl (by kernel_rfl) (by kernel_rfl) (by kernel_rfl) (fun _ _ _ h => h) (by rfl) (fun w hSw => by (try dsimp only at hSw); (obtain ⟨q4, q0, q1⟩ := hSw; go_simp; try rfl)) hHeld ?_
    go_frame
    refine takeH (i := 6) (some 21) rfl rfl (by kernel_rfl) (by kernel_rfl) (by kernel_rfl) (fun _ _ _ h => h) (by rfl) (fun w hSw => by (try dsimp only at hSw); (obtain ⟨q4, q0, q1⟩ := hSw; go_simp; try rfl)) hHeld ?_
    go_frame
    refine wpAnyH_ready (rs := [7]) (by kernel_rfl) (by simp) (AllReadyH.cons rfl (fun K hK => ?_) AllReadyH.nil)
    rw [if_pos (by rfl)]
    refine stEW (E := E2) none rfl rfl hQ2.be (by rw [hNb.out]; exact hib.out) (p0, p1) #[.int .i64 p0, .int .i64 p1] rfl rfl (by first | rfl | (simp; rfl) | (go_simp; rfl)) rfl info_plc fun W3 hR3 C3 => ?_
    have hF3 : Frm (bkB ⟨b, m, gf, cf, gb, cb, vr⟩) V2 W3 := frm_chg C3 (.inr (.inl rfl))
    have hnb : b ≠ gb := fun e => hQ2.noB (.inr (.inl e))
    have hgw : gb < w.heap.size := HG.out
    have q4 : W3.cell? ⟨b, 4, none⟩ = some (.slice (some ⟨gb, 0, none⟩) n cb) := by rw [← hNb.out]; exact (hQ2.blk.chg C3 hnb).at rfl
    have hP3 := hP2.chg C3 (show w.heap.size ≠ gb by omega)
    have q0 : W3.cell? ⟨w.heap.size, 0, none⟩ = some (.int .i64 p0) := hP3.at rfl
    have q1 : W3.cell? ⟨w.heap.size, 1, none⟩ = some (.int .i64 p1) := hP3.at rfl
    refine hK.out _ _ ⟨q4, q0, q1⟩ (fun hHeld => ?_)
    refine wpAnyH_done (by kernel_rfl) ?_ _
    clear hK K
    have hQ3 : Bq W3 B ⟨b, m, gf, cf, gb, cb, vr⟩ (lifB S i (p0, p1)) := hQ2.upd hF3 (by rw [HM.out]) (by rw [HM.out]) (by rw [HM.out]) (by rw [HM.out]) (by rw [HM.out, List.length_set]) (by rw [HM.out]; exact rw_at hQ2.fe (C3.other _ hQ2.nfb)) (by rw [HM.out]; exact hR3) (by rw [HM.out]; exact hQ2.ce.at (C3.other _ hQ2.nbm.symm)) hOK
    go_wp2_with fail
    exact bodyPost_end (results_none rfl _ _ _) rfl ⟨rfl, hQ3, (frm_below hw2).trans hF3⟩
end Go.Proofs.Ytoeilckeebojmaa
namespace Go.Proofs.Ytoeilckeebojmaa
open Go.RowKit Go.Maps
set_option linter.unusedVariables false
set_option maxRecDepth 100000

/-- Which names are left on the way. -/
def lefK (ba : List (Int × Int)) (ks : List Kyy) (left : Lit → Bool) : List Kyy := ks.filter fun k => !pasB ba k || left (kyL k)
theorem lefK_0 {ba : List (Int × Int)} {ks : List Kyy} {left : Lit → Bool} (h : ∀ k ∈ ks, left (kyL k) = true) : lefK ba ks left = ks := by
  unfold lefK
  rw [List.filter_eq_self]
  intro k hk
  rw [h k hk, Bool.or_true]
theorem lefK_end {ba : List (Int × Int)} {ks : List Kyy} {left : Lit → Bool} (h : ∀ l, left l = false) : lefK ba ks left = ks.filter fun k => !pasB ba k := by
  unfold lefK
  apply List.filter_congr
  intro k _
  rw [h, Bool.or_false]
theorem same_iff {a b : Kyy} (ha : KyOk a) (hb : KyOk b) : (kyL a).sameKey (kyL b) = decide (a = b) := by
  by_cases e : a = b
  · subst e
    rw [WideAt.sameKey_self (kyL_key a)]
    simp
  · cases h : (kyL a).sameKey (kyL b)
    · simp [e]
    · exact absurd (kyL_inj ha hb (WideAt.sameKey_eq h)) e
theorem lefK_stay {ba : List (Int × Int)} {ks : List Kyy} {left : Lit → Bool} {k : Kyy} (hok : ∀ k ∈ ks, KyOk k) (hk : KyOk k) (hp : pasB ba k = false) : lefK ba ks (fun z => left z && !z.sameKey (kyL k)) = lefK ba ks left := by
  unfold lefK
  apply List.filter_congr
  intro j hj
  dsimp only
  rw [same_iff (hok j hj) hk]
  by_cases e : j = k
  · subst e; rw [hp]; simp
  · simp [e]
theorem lefK_gone {ba : List (Int × Int)} {ks : List Kyy} {left : Lit → Bool} {k : Kyy} (hok : ∀ k ∈ ks, KyOk k) (hk : KyOk k) (hp : pasB ba k = true) : lefK ba ks (fun z => left z && !z.sameKey (kyL k)) = (lefK ba ks left).filter fun j => decide (j ≠ k) := by
  unfold lefK
  rw [List.filter_filter]
  apply List.filter_congr
  intro j hj
  dsimp only
  rw [same_iff (hok j hj) hk]
  by_cases e : j = k
  · subst e; rw [hp]; simp
  · simp [e]
/-- The way of drop. -/
structure Dw (w W : World) (K : Bkk) (S : Bsn) (r : Nat) (left : Lit → Bool) (cnt : Nat) (D : DataW Value) : Prop where
  rg : W.ranges Try.prog 47 hldV K.m r S.ks.length D left cnt
  dm : Dm D (lefK S.ba S.ks left) S.cv
  pw : Pw W K S
  fr : Frm (fun k => k = K.m) w W
  nr : w.heap.size ≤ r
theorem Dw.keep {w W W' : World} {K : Bkk} {S : Bsn} {r : Nat} {left : Lit → Bool} {cnt : Nat} {D : DataW Value} (h : Dw w W K S r left cnt D) (hb : Below W.heap.size W W') : Dw w W' K S r left cnt D := by
  refine ⟨?_, h.dm, h.pw.keep hb, h.fr.trans (frm_below hb), h.nr⟩
  obtain ⟨es, clock, since, seen, c0, h1, h2, h3, h4, h5, h6⟩ := h.rg
  have l1 : K.m < W.heap.size := (Array.getElem?_eq_some_iff.1 h1).1
  have l2 : r < W.heap.size := (Array.getElem?_eq_some_iff.1 h5).1
  exact ⟨es, clock, since, seen, c0, (hb.block _ l1).trans h1, h2, h3, h4, (hb.block _ l2).trans h5, h6⟩
theorem ky_inv2 : ∀ key kl, keyOf Try.prog 47 key = some kl → ∃ x : { k : Kyy // KyOk k }, key = kyV x.1 := fun key kl h => by
  obtain ⟨k, hk, rfl⟩ := ky_inv h
  exact ⟨⟨k, hk⟩, rfl⟩
theorem held_inv : ∀ (v : Value) (y : DataW Value × List MemPlace), hldV v = some y → ∃ c : Value, v = id c := fun v y h => ⟨v, rfl⟩
/-- 'delete' in a round, at one operation. -/
theorem delRW {P : Program} {H : Type} {o : Oper} {a : Act} {w : World} {KK : Act → World → Prop} {Q : Exit → Act → World → Prop} (d : Option Tmp) (hd : o.dst = d) (m x : Operand) (t k : TypeId) (hop : o.op = Op.call { callee := Callee.builtin Builtin.delete, args := #[m, x], argTypes := #[t, k] })
    (e : TypeId) (K : Keyed P k) (ht : P.underlying t = some (.map k e)) (R : Value → Option (DataW H × List MemPlace)) (b r n : Nat) (D : DataW H) (left : Lit → Bool) (cnt : Nat)
    (hm : a.eval m = .map (some b)) (h : w.ranges P k R b r n D left cnt) (key : Value) (kl : Lit) (hx : a.eval x = key) (hkey : keyOf P k key = some kl)
    (hK : ∀ w' cnt', w'.ranges P k R b r n (D.del kl) (fun z => left z && !z.sameKey kl) cnt' → cnt' ≤ cnt → w.mapTurned w' b → KK (a.put d (.tuple #[])) w') : o.wp P a w KK Q := by
  subst hd
  obtain ⟨w', cnt', hrun, r1, r2, r3⟩ := h.drop K ht hkey o.type
  unfold Oper.wp
  simp [execOp, hop, resolve, invoke, builtin, hm, hx, hrun, Result.andThen]
  exact hK w' cnt' r1 r2 r3
set_option maxHeartbeats 2000000 in
theorem badrop_any {B : Nat} {K : Bkk} {S : Bsn} (w : World) (h : Bq w B K S) :
    Calls Try.prog 36 #[bptr K] w fun e w' => e = .returned (.int .i64 ((S.ks.length : Int) - ((drpB S).ks.length : Int))) ∧ Bq w' B K (drpB S) ∧ Frm (bkB K) w w' := by
  obtain ⟨-, -, -, -, -, c5⟩ := h.cells w (Below.refl _ _)
  have hl := h.ce.len
  obtain ⟨D0, hO, hD⟩ := h.ce
  rw [hD.sz] at hO
  have HK : Hid (∀ k ∈ S.ks, KyOk k ∧ 0 ≤ k.1 ∧ k.1 < (S.ba.length : Int)) := h.ok.kk
  have HH : Hid (Bq w B K S) := h
  have HD : Hid (Dm D0 S.ks S.cv) := hD
  have HOK := okb_drp h.ok
  have hkl : S.ks.length ≤ 1024 := by have := h.ok.kl; have := h.ok.m1; omega
  have HP : Hid (Pw w K S) := h.pw
  have hnb : Hid (K.b ≠ K.m) := fun e => h.noB (.inr (.inr e))
  have hgm : Hid (K.gb ≠ K.m) := h.nbm
  clear h hD
  generalize hn : S.ks.length = n at *
  have HN : Hid (S.ks.length = n) := hn
  clear hn
  obtain ⟨b, m, gf, cf, gb, cb, vr⟩ := K
  try dsimp only at *
  go_enter Try.func36, Try.ntmps36
  go_wp2_with (first
    | (at_len; refine len_l rfl rfl _ rfl hl ?_)
    | (at_range; refine wpList_range_own _ rfl _ 91 rfl 47 54 keyed16 Try.underlying91 hldV m n D0 rfl hO ?_; intro w0 hrg0 hg0 hs0))
  go_frame
  have hD0 : Dw w w0 ⟨b, m, gf, cf, gb, cb, vr⟩ S w.heap.size (Maps.has D0) (Maps.size D0) D0 := by
    refine ⟨by rw [HN.out]; exact hrg0, ?_, ?_, ?_, Nat.le_refl _⟩
    · rw [lefK_0 (fun k hk => by rw [HD.out.hs k (HK.out k hk).1]; exact decide_eq_true hk)]
      exact HD.out
    · exact HP.out.keep ⟨hg0.os, hg0.tape, hg0.output, hg0.size, fun i hi => hg0.block i hi (by simp)⟩
    · exact frm_below ⟨hg0.os, hg0.tape, hg0.output, hg0.size, fun i hi => hg0.block i hi (by simp)⟩
  clear hrg0 hg0 hl c5 hO
  go_loopw [18] (fun _ wr => ∃ left cnt D, Dw w wr ⟨b, m, gf, cf, gb, cb, vr⟩ S w.heap.size left cnt D) (fun _ wr => wr.rangeLeft m w.heap.size)
  case atStart => exact ⟨_, _, _, hD0⟩
  case round =>
    clear hD0
    obtain ⟨left, cnt, D, hW⟩ := hrel
    have hrg := hW.rg
    rw [HN.out] at hrg
    have HW : Hid (Dw w wr ⟨b, m, gf, cf, gb, cb, vr⟩ S w.heap.size left cnt D) := hW
    clear hW
    go_wp2_with (at_next; refine wpList_next_ranges _ rfl _ rfl 47 keyed16 hldV (fun x : { k : Kyy // KyOk k } => kyV x.1) id ky_inv2 held_inv m w.heap.size n D left cnt rfl hrg ?_ ?_)
    · intro _ hl0
      have hW := HW.out
      have hOw := hrg.owns
      have hDE : Dm D (drpB S).ks (drpB S).cv := by
        have h1 := hW.dm
        rw [lefK_end hl0] at h1
        exact ⟨h1.sz, h1.hs, fun k hk z => by rw [h1.cl k hk z]; show _ = DataW.held (Value.agg (CA (kepC _ S.cv k))); unfold kepC; rw [if_pos (show k ∈ S.ks.filter (fun k => !pasB S.ba k) from hk)], h1.nd, h1.ok⟩
      have hQ : Bq wr B ⟨b, m, gf, cf, gb, cb, vr⟩ (drpB S) := by
        have hq := HH.out
        have hf : Frm (bkB ⟨b, m, gf, cf, gb, cb, vr⟩) w wr := hW.fr.mono fun k hk => .inr (.inr hk)
        exact hq.upd hf rfl rfl rfl rfl rfl (rw_at hq.fe (hW.fr.other _ hq.fe.lt hq.nfm)) (rw_at hq.be (hW.fr.other _ hq.be.lt hq.nbm)) ⟨D, tight16 hOw, hDE⟩ HOK
      have HF : Hid (Frm (bkB ⟨b, m, gf, cf, gb, cb, vr⟩) w wr) := hW.fr.mono fun k hk => .inr (.inr hk)
      have hl2 := hQ.ce.len
      have c5 : wr.cell? ⟨b, 5, none⟩ = some (.map (some m)) := hQ.blk.at rfl
      have HQ : Hid (Bq wr B ⟨b, m, gf, cf, gb, cb, vr⟩ (drpB S)) := hQ
      have hle : (drpB S).ks.length ≤ n := by rw [← HN.out]; exact List.length_filter_le _ _
      clear hW hOw hDE hQ hrg HW
      generalize hn2 : (drpB S).ks.length = n2 at *
      have HN2 : Hid ((drpB S).ks.length = n2) := hn2
      clear hn2
      go_wp2_with (at_len; refine len_l rfl rfl _ rfl hl2 ?_)
      go_ret
      exact ⟨by rw [HN2.out]; rfl, HQ.out, HF.out⟩
    · intro ka kb kc hk v kl yd yp w1 cnt1 hkey hlk hv hat hrg1 hlt hg1 hs1 hen
      obtain ⟨k, hke⟩ : ∃ k : Kyy, k = (ka, kb, kc) := ⟨_, rfl⟩
      rw [← hke] at hk hkey hen
      obtain rfl : kl = kyL k := by
        rw [key16 hk] at hkey
        exact (Option.some.inj hkey).symm
      have hW := HW.out
      have hmem : k ∈ lefK S.ba S.ks left := by
        have h1 := hW.dm.hs k hk
        rw [has_true_of_atKey hat] at h1
        exact of_decide_eq_true h1.symm
      have hkS := (List.mem_filter.1 hmem).1
      obtain ⟨-, k0, k1⟩ := HK.out k hkS
      have hokS : ∀ k ∈ S.ks, KyOk k := fun k hk => (HK.out k hk).1
      have hfr1 : Frm (fun k => k = m) w w1 := hW.fr.young (frm_grown (X := fun k => k = w.heap.size) hg1 rfl) (fun k hk e => by omega)
      have hP1 : Pw w1 ⟨b, m, gf, cf, gb, cb, vr⟩ S := by
        have hq := HH.out
        exact hq.pw.frm hfr1 hnb.out hgm.out
      have HT : Hid (Tidy D) := hrg.owns.tidy keyed16
      have HDM : Hid (Dm D (lefK S.ba S.ks left) S.cv) := hW.dm
      clear hW HW hlk hv hat hs1
      have hc5 : ∀ V, Below w1.heap.size w1 V → V.cell? ⟨b, 5, none⟩ = some (.map (some m)) := fun V hb => (hP1.blk.keep hb).at rfl
      subst hke
      unfold kyV at hen
      try dsimp only at hen k0 k1
      obtain ⟨A, hE, hX, hw⟩ := blk1 w1 #[.int .i64 ka, .int .i64 kb, .int .i64 kc] 47
      have y0 : A.cell? ⟨w1.heap.size, 0, none⟩ = some (.int .i64 ka) := hX.at rfl
      have y1 : A.cell? ⟨w1.heap.size, 1, none⟩ = some (.int .i64 kb) := hX.at rfl
      have y2 : A.cell? ⟨w1.heap.size, 2, none⟩ = some (.int .i64 kc) := hX.at rfl
      have HC := bapast_any (ka, kb, kc) A (hP1.keep hw) k0 k1
      unfold kyV at HC
      cases hp : pasB S.ba (ka, kb, kc)
      · rw [hp] at HC
        go_wp2_with (go_at_call 52; refine HC.mono ?_; rintro e W2 ⟨rfl, b2⟩)
        have bw := ab_trans hw b2
        have hN : Dw w W2 ⟨b, m, gf, cf, gb, cb, vr⟩ S w.heap.size (fun z => left z && !z.sameKey (kyL (ka, kb, kc))) cnt1 D := by
          have : Dw w w1 ⟨b, m, gf, cf, gb, cb, vr⟩ S w.heap.size (fun z => left z && !z.sameKey (kyL (ka, kb, kc))) cnt1 D :=
            ⟨by rw [HN.out]; exact hrg1, by rw [lefK_stay hokS hk hp]; exact HDM.out, hP1, hfr1, Nat.le_refl _⟩
          exact this.keep bw
        have hrN := hN.rg
        go_roundw
        case rel => exact ⟨_, _, _, hN⟩
        case measure => rw [hrN.left_eq, hrg.left_eq]; exact hlt
      · rw [hp] at HC
        go_upto_region 6 with (go_at_call 52; refine HC.mono ?_; rintro e W2 ⟨rfl, b2⟩)
        have bw := ab_trans hw b2
        have hX2 := hX.keep b2
        have c5 := hc5 _ bw
        have g0 : W2.cell? ⟨w1.heap.size, 0, none⟩ = some (.int .i64 ka) := hX2.at rfl
        have g1 : W2.cell? ⟨w1.heap.size, 1, none⟩ = some (.int .i64 kb) := hX2.at rfl
        have g2 : W2.cell? ⟨w1.heap.size, 2, none⟩ = some (.int .i64 kc) := hX2.at rfl
        refine wp_region_held_drew (S := fun w' => w'.cell? ⟨b, 5, none⟩ = some (.map (some m)) ∧ w'.cell? ⟨w1.heap.size, 0, none⟩ = some (.int .i64 ka) ∧ w'.cell? ⟨w1.heap.size, 1, none⟩ = some (.int .i64 kb) ∧ w'.cell? ⟨w1.heap.size, 2, none⟩ = some (.int .i64 kc)) (by kernel_rfl) ⟨c5, g0, g1, g2⟩ (fun hHeld => ?_)
        have bV : Below w1.heap.size w1 W2.drew := ab_drew bw
        have hXV : Blk W2.drew w1.heap.size #[.int .i64 ka, .int .i64 kb, .int .i64 kc] 47 := hX2
        clear c5 g0 g1 g2 hX2 bw b2 y0 y1 y2 hE hX hw
        generalize W2.drew = V at *
        refine takeH (i := 0) (some 22) rfl rfl (by kernel_rfl) (by kernel_rfl) (by kernel_rfl) (fun _ _ _ h => h) (by rfl) (fun w hSw => by (try dsimp only at hSw); go_simp; try rfl) hHeld ?_
        go_frame
        refine takeH (i := 1) (some 23) rfl rfl (by kernel_rfl) (by kernel_rfl) (by kernel_rfl) (fun _ _ _ h => h) (by rfl) (fun w hSw => by (try dsimp only at hSw); go_simp; try rfl) hHeld ?_
        go_frame
        refine takeH (i := 2) (some 24) rfl rfl (by kernel_rfl) (by kernel_rfl) (by kernel_rfl) (fun _ _ _ h => h) (by rfl) (fun w hSw => by (try dsimp only at hSw); go_simp; try rfl) hHeld ?_
        go_frame
        refine takeH (i := 3) (some 25) rfl rfl (by kernel_rfl) (by kernel_rfl) (by kernel_rfl) (fun _ _ _ h => h) (by rfl) (fun w hSw => by (try dsimp only at hSw); (obtain ⟨q5, q0, q1, q2⟩ := hSw; go_simp; try rfl)) hHeld ?_
        go_frame
        refine takeH (i := 4) (some 26) rfl rfl (by kernel_rfl) (by kernel_rfl) (by kernel_rfl) (fun _ _ _ h => h) (by rfl) (fun w hSw => by (try dsimp only at hSw); (obtain ⟨q5, q0, q1, q2⟩ := hSw; go_simp; try rfl)) hHeld ?_
        go_frame
        have hD1 : Dw w w1 ⟨b, m, gf, cf, gb, cb, vr⟩ S w.heap.size (fun z => left z && !z.sameKey (kyL (ka, kb, kc))) cnt1 D → True := fun _ => trivial
        have hrV : V.ranges Try.prog 47 hldV m w.heap.size n D (fun z => left z && !z.sameKey (kyL (ka, kb, kc))) cnt1 := by
          obtain ⟨es, clock, since, seen, c0, h1, h2, h3, h4, h5, h6⟩ := hrg1
          have l1 : m < w1.heap.size := (Array.getElem?_eq_some_iff.1 h1).1
          have l2 : w.heap.size < w1.heap.size := (Array.getElem?_eq_some_iff.1 h5).1
          exact ⟨es, clock, since, seen, c0, (bV.block _ l1).trans h1, h2, h3, h4, (bV.block _ l2).trans h5, h6⟩
        refine wpAnyH_ready (rs := [5]) (by kernel_rfl) (by simp) (AllReadyH.cons rfl (fun K hK => ?_) AllReadyH.nil)
        rw [if_pos (by rfl)]
        refine delRW _ rfl _ _ 91 47 rfl 54 keyed16 Try.underlying91 hldV m w.heap.size n D _ cnt1 rfl hrV (kyV (ka, kb, kc)) (kyL (ka, kb, kc)) rfl (key16 hk) ?_
        intro W3 cnt3 hr3 hle3 ht3
        rw [strike_twice] at hr3
        have hF3 : Frm (fun k => k = m) V W3 := frm_grown ht3.grown rfl
        have hPV := hP1.keep bV
        have hP3 : Pw W3 ⟨b, m, gf, cf, gb, cb, vr⟩ S := hPV.frm hF3 hnb.out hgm.out
        have hmlt : w1.heap.size ≠ m := by
          obtain ⟨es, clock, since, seen, c0, h1, h2⟩ := hrg1
          have l1 : m < w1.heap.size := (Array.getElem?_eq_some_iff.1 h1).1
          omega
        have hX3 := hXV.frm hF3 hmlt
        have hN : Dw w W3 ⟨b, m, gf, cf, gb, cb, vr⟩ S w.heap.size (fun z => left z && !z.sameKey (kyL (ka, kb, kc))) cnt3 (D.del (kyL (ka, kb, kc))) :=
          ⟨by rw [HN.out]; exact hr3, by rw [lefK_gone hokS hk hp]; exact HDM.out.del HT.out hmem, hP3, (hfr1.trans (frm_below bV)).trans hF3, Nat.le_refl _⟩
        refine hK.out _ _ ⟨hP3.blk.at rfl, hX3.at rfl, hX3.at rfl, hX3.at rfl⟩ (fun hHeld => ?_)
        refine wpAnyH_done (by kernel_rfl) ?_ _
        clear hK K
        have hrN := hN.rg
        go_wp2_with fail
        go_roundw
        case rel => exact ⟨_, _, _, hN⟩
        case measure => rw [hrN.left_eq, hrg.left_eq]; omega
end Go.Proofs.Ytoeilckeebojmaa
