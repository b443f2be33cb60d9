/-
  Basin's Raise and Feed.
-/
import Derived.Test.YtoeilckeebojmaaPk41
import Derived.Test.YtoeilckeebojmaaPk42
namespace Go.Proofs.Ytoeilckeebojmaa
open Go.RowKit Go.Maps
set_option linter.unusedVariables false
set_option maxRecDepth 100000

theorem baraise_no {B : Nat} {K : Bkk} {S : Bsn} (n : Int) (p : Int × Int) (w : World) (h : Bq w B K S) (hn : hasN n S.ba.length = false) :
    Calls Try.prog 18 #[bptr K, .int .i64 n, Plc p.1 p.2] w fun e w' => e = .returned (.tuple #[.int .i64 0, Err 1]) ∧ Below w.heap.size w w' := by
  obtain ⟨A, hE, hX, hw⟩ := blk1 w #[.int .i64 p.1, .int .i64 p.2] 38
  have HS := bhasL_any n A (h.keep hw)
  rw [hn] at HS
  clear h hn
  obtain ⟨b, m, gf, cf, gb, cb, vr⟩ := K
  obtain ⟨p0, p1⟩ := p
  try dsimp only at *
  go_enter Try.func18, Try.ntmps18
  go_wp2_with (go_at_call 45; refine HS.mono ?_; rintro e W ⟨rfl, rfl⟩)
  go_ret2
  exact ⟨rfl, hw⟩
theorem baraise_nil (n : Int) (p : Int × Int) (w : World) :
    Calls Try.prog 18 #[.pointer none, .int .i64 n, Plc p.1 p.2] w fun e w' => e = .returned (.tuple #[.int .i64 0, Err 1]) ∧ Below w.heap.size w w' := by
  obtain ⟨A, hE, hX, hw⟩ := blk1 w #[.int .i64 p.1, .int .i64 p.2] 38
  obtain ⟨p0, p1⟩ := p
  try dsimp only at *
  go_enter Try.func18, Try.ntmps18
  go_wp2_with (go_at_call 45; refine (bhasL_nil _ _).mono ?_; rintro e W ⟨rfl, rfl⟩)
  go_ret2
  exact ⟨rfl, hw⟩
theorem baraise_ok {B : Nat} {K : Bkk} {S : Bsn} (i : Nat) (p : Int × Int) (w : World) (h : Bq w B K S) (hi : i < S.ba.length) (hp : J64 p.1 ∧ J64 p.2) :
    Calls Try.prog 18 #[bptr K, .int .i64 (i : Int), Plc p.1 p.2] w fun e w' => e = .returned (.tuple #[.int .i64 ((S.ks.length : Int) - ((drpB (lifB S i p)).ks.length : Int)), .nilIface]) ∧ Bq w' B K (drpB (lifB S i p)) ∧ Frm (bkB K) w w' := by
  obtain ⟨A, hE, hX, hw⟩ := blk1 w #[.int .i64 p.1, .int .i64 p.2] 38
  have hA := h.keep hw
  have HS := bhasL_any (i : Int) A hA
  have hh : hasN (i : Int) S.ba.length = true := decide_eq_true (by omega)
  rw [hh] at HS
  have HL := balift_any i p A hA hi hp
  have HD := fun (W : World) (hq : Bq W B K (lifB S i p)) => badrop_any W hq
  have hk : (lifB S i p).ks = S.ks := rfl
  have y0 : A.cell? ⟨w.heap.size, 0, none⟩ = some (.int .i64 p.1) := hX.at rfl
  have y1 : A.cell? ⟨w.heap.size, 1, none⟩ = some (.int .i64 p.2) := hX.at rfl
  rw [hk] at HD
  clear h hh hA hX hk
  generalize lifB S i p = T at *
  obtain ⟨b, m, gf, cf, gb, cb, vr⟩ := K
  obtain ⟨p0, p1⟩ := p
  try dsimp only at *
  go_enter Try.func18, Try.ntmps18
  go_wp2_with (first
    | (go_at_call 45; refine HS.mono ?_; rintro e W ⟨rfl, rfl⟩)
    | (go_at_call 35; refine HL.mono ?_; rintro e W2 ⟨rfl, hq2, hf2⟩)
    | (go_at_call 36; refine (HD _ hq2).mono ?_; rintro e W3 ⟨rfl, hq3, hf3⟩))
  go_ret2
  exact ⟨rfl, hq3, ((frm_below hw).trans hf2).trans hf3⟩
/-- A slice that is read, whatever a basin's calls turn. -/
def Stay {α : Type} (E : En α) (K : Bkk) (w : World) (v : Value) (l : List α) : Prop := ∀ V, Frm (bkB K) w V → ER E V v l
theorem Stay.er {α : Type} {E : En α} {K : Bkk} {w : World} {v : Value} {l : List α} (h : Stay E K w v l) : ER E w v l := h w (Frm.refl _ _)
theorem Stay.frm {α : Type} {E : En α} {K : Bkk} {w W : World} {v : Value} {l : List α} (h : Stay E K w v l) (hf : Frm (bkB K) w W) : Stay E K W v l := fun V hV => h V (hf.trans hV)
theorem stay_out {α : Type} {E : En α} {K : Bkk} {w : World} {v : Value} {l : List α} (h : ER E w v l) (hx : OutB v (bkB K)) : Stay E K w v l := fun V hV => h.frm hV hx
theorem fform_src {S : Bsn} {src fr la : Int} {cut : List (Int × Int)} {ops : List Op5} (h : hasN src S.fl.length = false) : ¬ fdF S src fr la cut ops := fun hf => absurd hf.1 (of_decide_eq_false h)
set_option maxHeartbeats 4000000 in
theorem bafeed_form {B : Nat} {K : Bkk} {S : Bsn} (src fr la : Int) (vc vo : Value) (cut : List (Int × Int)) (ops : List Op5) (w : World) (h : Bq w B K S) (hc : ER E2 w vc cut) (hO : ER E5 w vo ops) (hn : ¬ fdF S src fr la cut ops) :
    Calls Try.prog 11 #[bptr K, .int .i64 src, .int .i64 fr, .int .i64 la, vc, vo] w fun e w' => e = .returned (Err 2) ∧ Below w.heap.size w w' := by
  obtain ⟨qc, cc, rfl⟩ := hc.form
  obtain ⟨qo, co, eo⟩ := hO.form
  have HS := bhasS_any src w h
  have HL := blanes_any w h
  have HI := bainform_any vo ops fr la w hO
  have HN : Hid (¬ fdF S src fr la cut ops) := hn
  rw [eo] at HI ⊢
  clear hc hO hn eo
  have hca : (cut.length : Int) ≤ 9223372036854775807 → True := fun _ => trivial
  cases hs : hasN src S.fl.length
  · rw [hs] at HS
    clear h HL HI
    generalize cut.length = nc at *
    generalize ops.length = no at *
    obtain ⟨b, m, gf, cf, gb, cb, vr⟩ := K
    try dsimp only at *
    go_enter Try.func11, Try.ntmps11
    go_wp2_with (go_at_call 33; refine HS.mono ?_; rintro e W ⟨rfl, rfl⟩)
    go_ret
    exact ⟨rfl, Below.refl _ _⟩
  · rw [hs] at HS
    have hsr := of_decide_eq_true hs
    by_cases c2 : cut.length = S.ba.length
    · have c2b : ((cut.length : Int) != (S.ba.length : Int)) = false := by simp [c2]
      by_cases c3 : la < wrap64 (fr - 1)
      · clear h HI
        have HC : Hid (cut.length = S.ba.length) := c2
        clear c2
        generalize cut.length = nc at *
        generalize ops.length = no at *
        generalize S.ba.length = nb at *
        obtain ⟨b, m, gf, cf, gb, cb, vr⟩ := K
        try dsimp only at *
        go_enter Try.func11, Try.ntmps11
        go_wp2_with (first
          | (go_at_call 33; refine HS.mono ?_; rintro e W ⟨rfl, rfl⟩)
          | (go_at_call 25; refine HL.mono ?_; rintro e W ⟨rfl, rfl⟩))
        go_ret
        exact ⟨rfl, Below.refl _ _⟩
      · have HF : Hid (¬ infO ops fr la) := fun hi => HN.out ⟨hsr, c2, by omega, hi⟩
        clear h
        have HC : Hid (cut.length = S.ba.length) := c2
        clear c2
        generalize cut.length = nc at *
        generalize ops.length = no at *
        generalize S.ba.length = nb at *
        obtain ⟨b, m, gf, cf, gb, cb, vr⟩ := K
        try dsimp only at *
        go_enter Try.func11, Try.ntmps11
        go_wp2_with (first
          | (go_at_call 33; refine HS.mono ?_; rintro e W ⟨rfl, rfl⟩)
          | (go_at_call 25; refine HL.mono ?_; rintro e W ⟨rfl, rfl⟩)
          | (go_at_call 34; refine HI.mono ?_; rintro e W ⟨⟨x, rfl, hx⟩, hb⟩; obtain rfl : x = false := (by cases x; rfl; exact absurd (hx.1 rfl) HF.out); clear hx))
        go_ret
        exact ⟨rfl, hb⟩
    · have c2b : ((cut.length : Int) != (S.ba.length : Int)) = true := by simp; omega
      clear h HI c2
      generalize cut.length = nc at *
      generalize ops.length = no at *
      generalize S.ba.length = nb at *
      obtain ⟨b, m, gf, cf, gb, cb, vr⟩ := K
      try dsimp only at *
      go_enter Try.func11, Try.ntmps11
      go_wp2_with (first
        | (go_at_call 33; refine HS.mono ?_; rintro e W ⟨rfl, rfl⟩)
        | (go_at_call 25; refine HL.mono ?_; rintro e W ⟨rfl, rfl⟩))
      go_ret
      exact ⟨rfl, Below.refl _ _⟩
theorem ba_mix {S : Bsn} {cut : List (Int × Int)} (hl : cut.length = S.ba.length) {k : Nat} {p : Int × Int} (hk : k < S.ba.length) (hp : cut[k]? = some p) : lifB { S with ba := mixP S.ba cut k } k p = { S with ba := mixP S.ba cut (k + 1) } := by
  obtain ⟨c, hc⟩ : ∃ c, S.ba[k]? = some c := ⟨S.ba[k], List.getElem?_eq_getElem hk⟩
  have h1 : (mixP S.ba cut k)[k]? = some c := by rw [mixP_at hl hk, hc]
  rw [lifB_at (S := { S with ba := mixP S.ba cut k }) h1, mixP_next hl hc hp]
set_option maxHeartbeats 4000000 in
theorem bafeed_stale {B : Nat} {K : Bkk} {S : Bsn} (i : Nat) (fr la : Int) (vc vo : Value) (cut : List (Int × Int)) (ops : List Op5) (w : World) (h : Bq w B K S) (hc : ER E2 w vc cut) (hO : ER E5 w vo ops) (hn : fdF S (i : Int) fr la cut ops) {f : Flw} (hf : S.fl[i]? = some f) (hne : fr ≠ f.nx) :
    Calls Try.prog 11 #[bptr K, .int .i64 (i : Int), .int .i64 fr, .int .i64 la, vc, vo] w fun e w' => e = .returned (Err 11) ∧ Below w.heap.size w w' := by
  obtain ⟨qc, cc, rfl⟩ := hc.form
  obtain ⟨qo, co, eo⟩ := hO.form
  have HS := bhasS_any (i : Int) w h
  have HL := blanes_any w h
  have HI := bainform_any vo ops fr la w hO
  obtain ⟨n1, n2, n3, n4⟩ := hn
  have hs : hasN (i : Int) S.fl.length = true := decide_eq_true n1
  have HF : Hid (infO ops fr la) := n4
  have c2b : ((cut.length : Int) != (S.ba.length : Int)) = false := by simp [n2]
  have c3 : ¬ la < wrap64 (fr - 1) := by omega
  have c4 : (fr != f.nx) = true := by simp [hne]
  have x3 : ∀ V, Below w.heap.size w V → V.cell? ⟨K.b, 3, none⟩ = some (.slice (some ⟨K.gf, 0, none⟩) S.fl.length K.cf) := fun V hb => (h.cells V hb).2.2.2.1
  have z0 : ∀ V, Below w.heap.size w V → V.cell? ⟨K.gf, i * 3, none⟩ = some (.int .i64 f.nx) := fun V hb => (h.keep hb).fe.cell (i := 0) hf rfl
  have hli : (i : Int) < (S.fl.length : Int) := n1.2
  rw [hs] at HS
  rw [eo] at HI ⊢
  clear hc hO eo h n1 n2 n3 n4 hs hf hne
  generalize cut.length = nc at *
  generalize ops.length = no at *
  generalize S.ba.length = nb at *
  generalize S.fl.length = nf at *
  obtain ⟨b, m, gf, cf, gb, cb, vr⟩ := K
  try dsimp only at *
  go_enter Try.func11, Try.ntmps11
  go_wp2_with (first
    | (go_at_call 33; refine HS.mono ?_; rintro e W ⟨rfl, rfl⟩)
    | (go_at_call 25; refine HL.mono ?_; rintro e W ⟨rfl, rfl⟩)
    | (go_at_call 34; refine HI.mono ?_; rintro e W ⟨⟨x, rfl, hx⟩, hb⟩; obtain rfl : x = true := hx.2 HF.out; clear hx; have x3' := x3 _ hb; have z0' := z0 _ hb))
  go_ret
  exact ⟨rfl, hb⟩
/-- The state that Feed leaves, and its error. -/
def fdR (S : Bsn) (i : Nat) (cut : List (Int × Int)) (ops : List Op5) : Bsn × Option Int := takB (drpB (cutB S cut)) i ops
def fdZ (S : Bsn) (i : Nat) (la : Int) (cut : List (Int × Int)) (ops : List Op5) : Bsn := nxtB (fdR S i cut ops).1 i (tkN la (fdR S i cut ops))
set_option maxHeartbeats 4000000 in
theorem bafeed_ok {B : Nat} {K : Bkk} {S : Bsn} (i : Nat) (fr la : Int) (vc vo : Value) (cut : List (Int × Int)) (ops : List Op5) (w : World) (h : Bq w B K S) (hc : Stay E2 K w vc cut) (hO : Stay E5 K w vo ops) (hn : fdF S (i : Int) fr la cut ops) {f : Flw} (hf : S.fl[i]? = some f) (hne : fr = f.nx)
    (hcj : ∀ p ∈ cut, J64 p.1 ∧ J64 p.2) (hoj : ∀ o ∈ ops, Fit5 o) (hla : J64 la) :
    Calls Try.prog 11 #[bptr K, .int .i64 (i : Int), .int .i64 fr, .int .i64 la, vc, vo] w fun e w' => e = .returned (errV (tkE (fdR S i cut ops))) ∧ Bq w' B K (fdZ S i la cut ops) ∧ Frm (bkB K) w w' := by
  obtain ⟨qc, cc, ec⟩ := hc.er.form
  obtain ⟨qo, co, eo⟩ := hO.er.form
  have HS := bhasS_any (i : Int) w h
  have HL := blanes_any w h
  have HI := bainform_any vo ops fr la w hO.er
  obtain ⟨n1, n2, n3, n4⟩ := hn
  have hs : hasN (i : Int) S.fl.length = true := decide_eq_true n1
  have HF : Hid (infO ops fr la) := n4
  have c2b : ((cut.length : Int) != (S.ba.length : Int)) = false := by simp [n2]
  have c3 : ¬ la < wrap64 (fr - 1) := by omega
  have c4 : (fr != f.nx) = false := by simp [hne]
  have x3 : ∀ V, Below w.heap.size w V → V.cell? ⟨K.b, 3, none⟩ = some (.slice (some ⟨K.gf, 0, none⟩) S.fl.length K.cf) := fun V hb => (h.cells V hb).2.2.2.1
  have z0 : ∀ V, Below w.heap.size w V → V.cell? ⟨K.gf, i * 3, none⟩ = some (.int .i64 f.nx) := fun V hb => (h.keep hb).fe.cell (i := 0) hf rfl
  have hli : (i : Int) < (S.fl.length : Int) := n1.2
  have HB : Hid (∀ V, Below w.heap.size w V → Bq V B K S) := fun V hb => h.keep hb
  have HCl : Hid (cut.length = S.ba.length) := n2
  have h12 := h.ok.lan.2
  have HLI : Hid (i < S.fl.length) := by have := n1.2; show _ < _; omega
  have hcp : cut.length ≤ cc := by
    obtain ⟨q', c', g, off, e1, e2, -⟩ := hc.er
    rw [ec] at e1
    injection e1 with _ _ e3
    omega
  have HT : Hid (∀ (W : World) (T : Bsn), Frm (bkB K) w W → Bq W B K T → i < T.fl.length → Calls Try.prog 37 #[bptr K, .int .i64 (i : Int), .int .i64 la, vo] W fun e w' => e = .returned (errV (tkE (takB T i ops))) ∧ Bq w' B K (nxtB (takB T i ops).1 i (tkN la (takB T i ops))) ∧ Frm (bkB K) W w') := fun W T hfr hq hl => batake_any i la vo ops W hq hl (hO.frm hfr) hoj hla
  have HCu : Hid (∀ V, Frm (bkB K) w V → ER E2 V vc cut) := hc
  rw [hs] at HS
  rw [eo] at HI HT
  rw [ec] at HCu
  rw [ec, eo]
  have hne' : Hid (fr = f.nx) := hne
  clear hc hO eo ec h n1 n2 n3 n4 hs hf hne
  generalize hnc : cut.length = nc at *
  generalize ops.length = no at *
  generalize hnb : S.ba.length = nb at *
  generalize hnf : S.fl.length = nf at *
  have hcu12 : nc ≤ 12 := by have := HCl.out; omega
  obtain ⟨b, m, gf, cf, gb, cb, vr⟩ := K
  try dsimp only at *
  go_enter Try.func11, Try.ntmps11
  go_wp2_with (first
    | (go_at_call 33; refine HS.mono ?_; rintro e w ⟨rfl, rfl⟩)
    | (go_at_call 25; refine HL.mono ?_; rintro e w ⟨rfl, rfl⟩)
    | (go_at_call 34; refine HI.mono ?_; rintro e W ⟨⟨x, rfl, hx⟩, hb⟩; obtain rfl : x = true := hx.2 HF.out; clear hx; have x3' := x3 _ hb; have z0' := z0 _ hb))
  have hBW := HB.out W hb
  clear x3 z0 x3' z0' HS HL HI
  have hB0 : Bq W B ⟨b, m, gf, cf, gb, cb, vr⟩ { S with ba := mixP S.ba cut 0 } := by rw [mixP_0]; exact hBW
  have hF0 : Frm (bkB ⟨b, m, gf, cf, gb, cb, vr⟩) w W := frm_below hb
  go_loopw [55] (fun z wr => ∃ k : Nat, k ≤ nc ∧ z = .int .i64 (k : Int) ∧ Bq wr B ⟨b, m, gf, cf, gb, cb, vr⟩ { S with ba := mixP S.ba cut k } ∧ Frm (bkB ⟨b, m, gf, cf, gb, cb, vr⟩) w wr) (fun z _ => nc - (intOf z).toNat)
  case atStart => exact ⟨0, by omega, rfl, hB0, hF0⟩
  case round =>
    clear hB0 hF0 hBW
    obtain ⟨k, hk, rfl, hB, hF⟩ := hrel
    by_cases c : k = nc
    · subst c
      have HE : Hid ({ S with ba := mixP S.ba cut k } = cutB S cut) := by
        show _ = cutB S cut
        have h1 := HCl.out
        unfold cutB
        rw [← mixP_all (ct := S.ba) (ps := cut) (by omega)]
        rw [hnb, ← h1]
      have hBc : Bq wr B ⟨b, m, gf, cf, gb, cb, vr⟩ (cutB S cut) := by rw [← HE.out]; exact hB
      have HD := badrop_any wr hBc
      have hfl : (drpB (cutB S cut)).fl = S.fl := rfl
      have HT' := fun (W2 : World) (hq : Bq W2 B ⟨b, m, gf, cf, gb, cb, vr⟩ (drpB (cutB S cut))) (hfr : Frm (bkB ⟨b, m, gf, cf, gb, cb, vr⟩) w W2) => HT.out W2 _ hfr hq (by rw [hfl, hnf]; exact HLI.out)
      have HZ : Hid (∀ e, e = fdR S i cut ops → (nxtB e.1 i (tkN la e)) = fdZ S i la cut ops) := fun e he => by rw [he]; rfl
      have HR : Hid (takB (drpB (cutB S cut)) i ops = fdR S i cut ops) := rfl
      clear hB HT hfl
      generalize drpB (cutB S cut) = T at *
      generalize (cutB S cut).ks.length = kk at *
      go_wp2_with (first
        | (go_at_call 36; refine HD.mono ?_; rintro e W2 ⟨rfl, hq2, hf2⟩)
        | (go_at_call 37; refine (HT' _ hq2 (hF.trans hf2)).mono ?_; rintro e W3 ⟨rfl, hq3, hf3⟩))
      go_ret
      exact ⟨by rw [← HR.out]; rfl, by rw [← HZ.out _ rfl, ← HR.out]; exact hq3, (hF.trans hf2).trans hf3⟩
    · obtain ⟨p, hp⟩ : ∃ p, cut[k]? = some p := ⟨cut[k]'(by omega), List.getElem?_eq_getElem (by omega)⟩
      have hki : (k : Int) < (nc : Int) := by omega
      obtain ⟨q', cap', g, off, eq', -, -, hpp, hr⟩ := (HCu.out wr hF).at
      rw [hnc] at eq'
      injection eq' with e1 _ e3
      subst e1
      subst e3
      rw [hnc] at hpp
      obtain ⟨rfl, hgk⟩ := hpp (by omega)
      have y0 := hr k p hp 0 _ rfl
      have y1 := hr k p hp 1 _ rfl
      rw [Nat.add_zero, show E2.k = 2 from rfl] at y0
      rw [show E2.k = 2 from rfl] at y1
      obtain ⟨A, hE, hX, hwA⟩ := blk1 wr #[.int .i64 p.1, .int .i64 p.2] 38
      have g0 : A.cell? ⟨wr.heap.size, 0, none⟩ = some (.int .i64 p.1) := hX.at rfl
      have g1 : A.cell? ⟨wr.heap.size, 1, none⟩ = some (.int .i64 p.2) := hX.at rfl
      have hml : (mixP S.ba cut k).length = nb := by
        have h1 := HCl.out
        rw [mixP_len (by omega) (by omega)]
        exact hnb
      have HLf := balift_any k p A (hB.keep hwA) (by show k < (mixP S.ba cut k).length; rw [hml]; have := HCl.out; omega) (hcj p (List.mem_of_getElem? hp))
      have HM : Hid (lifB { S with ba := mixP S.ba cut k } k p = { S with ba := mixP S.ba cut (k + 1) }) := ba_mix (by have := HCl.out; omega) (by have := HCl.out; omega) hp
      rw [HM.out] at HLf
      have hFA := hF.trans (frm_below hwA)
      clear hr hpp hp hB hF hX
      go_wp2_with (go_at_call 35; refine HLf.mono ?_; rintro e W2 ⟨rfl, hq2, hf2⟩)
      go_roundw
      case rel => exact ⟨k + 1, by omega, by go_num, hq2, hFA.trans hf2⟩
      case measure => simp [intOf]; omega
end Go.Proofs.Ytoeilckeebojmaa
