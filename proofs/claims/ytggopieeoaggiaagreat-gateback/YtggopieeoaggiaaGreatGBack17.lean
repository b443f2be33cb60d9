/-
  A batch in form comes back from its note: estuarylaw17.GateBack returns true for every input; no condition.
-/
import Derived.Test.YtggopieeoaggiaaGreatPk53
import Derived.Test.YtggopieeoaggiaaGreatPk54
import Derived.Test.YtggopieeoaggiaaGreatPk44
import Derived.Test.YtggopieeoaggiaaGreatPk09
import Derived.ProofKit
import Derived.OpenShut
import Derived.ChangeOld
import Derived.Below
namespace Go.Proofs.YtggopieeoaggiaaGreat.gateBack
open Go.ChangeShapes Go.WideShapes Go.ChangeAt Go.RowKit Go.Joins
set_option linter.unusedVariables false
set_option maxRecDepth 100000

theorem eqErr2 (w : World) : (binOp .eql 39 (Err 2) (Err 2)).run Tryz.prog w = .ok (.bool true) w := by kernel_rfl
theorem stEL {α : Type} {E : En α} {e ty : TypeId} {ops : Array Oper} {rest : List Oper} {o : Oper} {a : Act} {w : World} {Q : Exit → Act → World → Prop} (hw : Region.wanted o (yielded ops a.tmps) = true) {x y : Operand} (ho : o.op = .store ty x y) {g cap i off : Nat} {L : List α} (h : Rw E e w g cap L) (hi : i < L.length) (c : α) (arr : Array Value) (harr : arr.toList = E.f c)
    (hoff : off = i * E.k) (hx : a.eval x = .pointer (some ⟨g, off, none⟩)) (hy : a.eval y = .agg arr) (hinf : (Tryz.prog.info? ty).map (·.size) = some arr.size)
    (hK : ∀ W', Rw E e W' g cap (L.set i c) → Chg g w W' → wpList Tryz.prog ops Q rest (a.put o.dst undef) W') : wpList Tryz.prog ops Q (o :: rest) a w := by
  unfold wpList
  rw [if_pos hw]
  left
  exact stEW o.dst rfl ho h hi c arr harr hoff hx hy hinf hK
theorem eo_q17 {α : Type} {E : En α} {e : TypeId} {W : World} {B : Nat} {q : Option Addr} {n cap : Nat} {l : List α} (h : EO E e W B (.slice q n cap) l) : q = none ∨ ∃ g, q = some ⟨g, 0, none⟩ := by
  rcases h.2 with ⟨h2, _⟩ | ⟨g, cap', cur, e1, _⟩
  · injection h2 with e1; exact .inl e1
  · injection e1 with e1; exact .inr ⟨g, e1⟩
theorem ez17 : (EA zc).toList = EE.f zEnt := by kernel_rfl
theorem big17 (ep ln f0 f1 t0 t1 : Int) (q : Option Addr) (n cap : Nat) (fr to' : Int) (w : World) (hn : 100 < n) :
    Calls Tryz.prog 5 #[.agg #[.int .i64 ep, .int .i64 ln, .int .i64 f0, .int .i64 f1, .int .i64 t0, .int .i64 t1, .slice q n cap], .int .i64 fr, .int .i64 to'] w fun e w' => e = .returned (.bool true) ∧ Below w.heap.size w w' := by
  obtain ⟨A, hE, hX, hw⟩ := blk1 w #[.int .i64 ep, .int .i64 ln, .int .i64 f0, .int .i64 f1, .int .i64 t0, .int .i64 t1, .slice q n cap] 33
  have hni : (100 : Int) < (n : Int) := by omega
  go_enter Tryz.func5, Tryz.ntmps5
  go_upto_region 3 with (go_at_call 7; refine (alive17_any _).mono ?_; rintro e W1 ⟨rfl, b1⟩)
  have x6 : W1.cell? ⟨w.heap.size, 6, none⟩ = some (.slice q n cap) := (hX.keep b1).at rfl
  have hw1 := ab_trans hw b1
  clear hE hX hw b1
  go_wp2_with fail
  go_ret
  exact ⟨rfl, hw1⟩
def nB (ep ln f0 f1 t0 t1 fr to' : Int) : Nt := ⟨8, fr, to', [ep, ln, f0, f1, t0, t1], [], []⟩
theorem gb_iff (ep ln f0 f1 t0 t1 fr to' : Int) (L : List Ent) : GbOK (nB ep ln f0 f1 t0 t1 fr to') L ↔ GkP ⟨ep, ln, (f0, f1), (t0, t1), L⟩ ∧ (0 ≤ fr ∧ fr ≤ 999) ∧ (0 ≤ to' ∧ to' ≤ 999) := by
  constructor
  · rintro ⟨h1, h2, h3⟩
    exact ⟨h3, h2.f, h2.t⟩
  · rintro ⟨h1, h2, h3⟩
    refine ⟨rfl, ⟨h2, h3, ?_, fun o ho => by cases ho⟩, h1⟩
    have := h1.few
    unfold FitK
    right; right; right; right; right; right
    refine ⟨rfl, rfl, rfl, ?_⟩
    show (L.map entF).length ≤ 16
    rw [List.length_map]
    exact this
set_option maxHeartbeats 4000000 in
theorem small17 (ep ln f0 f1 t0 t1 : Int) (v : Value) (L : List Ent) (fr to' : Int) (w : World) (hv : ER EE w v L) (hn : L.length ≤ 100) :
    Calls Tryz.prog 5 #[.agg #[.int .i64 ep, .int .i64 ln, .int .i64 f0, .int .i64 f1, .int .i64 t0, .int .i64 t1, v], .int .i64 fr, .int .i64 to'] w fun e w' => e = .returned (.bool true) ∧ Below w.heap.size w w' := by
  have HV : Hid (∀ V, Below w.heap.size w V → ER EE V v L) := fun V hV => hv.keep hV
  obtain ⟨q, cap, ev⟩ := hv.form
  subst ev
  clear hv
  have HNt := fun (V : World) (hV : Below w.heap.size w V) => gnote_any fr to' ⟨ep, ln, (f0, f1), (t0, t1), L⟩ (.slice q L.length cap) V (HV.out V hV) (by show L.length ≤ 100000; omega)
  have HGo := fun (V : World) (hV : Below w.heap.size w V) => rgood17_any ⟨ep, ln, (f0, f1), (t0, t1), L⟩ (.slice q L.length cap) V (HV.out V hV)
  unfold btA at HNt HGo
  try dsimp only at HNt HGo
  have hnL : L.length = L.length := rfl
  generalize hnn : L.length = n at *
  clear hnL
  obtain ⟨A, hE, hX, hw⟩ := blk1 w #[.int .i64 ep, .int .i64 ln, .int .i64 f0, .int .i64 f1, .int .i64 t0, .int .i64 t1, .slice q n cap] 33
  have hni : ¬ (100 : Int) < (n : Int) := by omega
  have hxl := hX.lt
  have HX : Hid (∀ V, Below A.heap.size A V → Blk V w.heap.size #[.int .i64 ep, .int .i64 ln, .int .i64 f0, .int .i64 f1, .int .i64 t0, .int .i64 t1, .slice q n cap] 33 ∧ Below w.heap.size w V) := fun V hV => ⟨hX.keep hV, ab_trans hw hV⟩
  clear hX hw
  go_enter Tryz.func5, Tryz.ntmps5
  go_upto_region 3 with (go_at_call 7; refine (alive17_any _).mono ?_; rintro e W1 ⟨rfl, b1⟩)
  obtain ⟨hX1, hw1⟩ := HX.out W1 b1
  have x0 : W1.cell? ⟨w.heap.size, 0, none⟩ = some (.int .i64 ep) := hX1.at rfl
  have x1 : W1.cell? ⟨w.heap.size, 1, none⟩ = some (.int .i64 ln) := hX1.at rfl
  have x2 : W1.cell? ⟨w.heap.size, 2, none⟩ = some (.int .i64 f0) := hX1.at rfl
  have x3 : W1.cell? ⟨w.heap.size, 3, none⟩ = some (.int .i64 f1) := hX1.at rfl
  have x4 : W1.cell? ⟨w.heap.size, 4, none⟩ = some (.int .i64 t0) := hX1.at rfl
  have x5 : W1.cell? ⟨w.heap.size, 5, none⟩ = some (.int .i64 t1) := hX1.at rfl
  have x6 : W1.cell? ⟨w.heap.size, 6, none⟩ = some (.slice q n cap) := hX1.at rfl
  have hs1 := hw1.size
  clear hE hX1
  go_upto_region 6 with (first
    | (go_at_call 11; refine (HNt _ hw1).mono ?_; rintro e W2 ⟨⟨vn, ve, rfl, hI2, hO2⟩, b2⟩; obtain ⟨qn, cn, en⟩ := hI2.is.form; have en : vn = .slice qn 6 cn := en; subst en; obtain ⟨qe, ce, ee⟩ := hO2.form; dsimp only at ee; rw [hnn] at ee; subst ee)
    | (refine al_blk rfl rfl _ (zero_nt _) ?_; intro W3 e3 hX3 b3; clear e3)
    | (refine st_blk rfl rfl hX3 rfl (vs := #[.int .i64 8, .int .i64 fr, .int .i64 to', .slice qn 6 cn, .slice none 0 0, .slice qe n ce]) rfl (info_nt 8 fr to' qn 6 cn qe n ce) rfl (by simp [Value.oneCell']) ?_; intro W4 hX4 C4))
  have b24 := ab_chg b3 C4 (Nat.le_refl _)
  have hI4 := Io.keep hI2 b24
  have hO4 := hO2.keep b24
  try dsimp only at hI4 hO4
  have b14 := ab_trans b2 b24
  have hw4 := ab_trans hw1 b14
  have bA4 := ab_trans b1 b14
  have hx4l := hX4.lt
  have y0 : W4.cell? ⟨W2.heap.size, 0, none⟩ = some (.int .i64 8) := hX4.at rfl
  have y1 : W4.cell? ⟨W2.heap.size, 1, none⟩ = some (.int .i64 fr) := hX4.at rfl
  have y2 : W4.cell? ⟨W2.heap.size, 2, none⟩ = some (.int .i64 to') := hX4.at rfl
  have y3 : W4.cell? ⟨W2.heap.size, 3, none⟩ = some (.slice qn 6 cn) := hX4.at rfl
  have y4 : W4.cell? ⟨W2.heap.size, 4, none⟩ = some (.slice none 0 0) := hX4.at rfl
  have y5 : W4.cell? ⟨W2.heap.size, 5, none⟩ = some (.slice qe n ce) := hX4.at rfl
  have HBa : Calls Tryz.prog 15 #[.agg #[.int .i64 8, .int .i64 fr, .int .i64 to', .slice qn 6 cn, .slice none 0 0, .slice qe n ce]] W4 fun e w' => GbE W4.heap.size e w' (nB ep ln f0 f1 t0 t1 fr to') L ∧ Below W4.heap.size W4 w' := gbatch_any (nB ep ln f0 f1 t0 t1 fr to') L (.slice qn 6 cn) (.slice none 0 0) (.slice qe n ce) W4 hI4.is ⟨none, 0, 0, 0, rfl, Nat.le_refl _, by omega, fun h => absurd h (Nat.lt_irrefl 0), fun h => absurd h (Nat.lt_irrefl 0), fun j c hj => by have h9 : ([] : List (Nat → Int))[j]? = some c := hj; simp at h9⟩ hO4.er
  clear x0 x1 x2 x3 x4 x5 x6 HNt hX3 C4 b3 b24 b14 hI2 hO2 b2 hI4 b1 hw1
  by_cases hok : GbOK (nB ep ln f0 f1 t0 t1 fr to') L
  · obtain ⟨hgk, hfr, hto⟩ := (gb_iff ep ln f0 f1 t0 t1 fr to' L).1 hok
    have r1 : ¬ fr < 0 := by omega
    have r2 : ¬ 999 < fr := by omega
    have r3 : ¬ to' < 0 := by omega
    have r4 : ¬ 999 < to' := by omega
    have HG2 : ∀ V, Below w.heap.size w V → Calls Tryz.prog 9 #[.agg #[.int .i64 ep, .int .i64 ln, .int .i64 f0, .int .i64 f1, .int .i64 t0, .int .i64 t1, .slice q n cap]] V fun e w' => e = .returned (.bool true) ∧ Below V.heap.size V w' := fun V hV => (HGo V hV).mono (fun e w' ⟨h1, h2⟩ => ⟨by rcases h1 with ⟨_, h1⟩ | ⟨h1, _⟩ <;> first | exact h1 | exact absurd hgk h1, h2⟩)
    have HB2 : Calls Tryz.prog 15 #[.agg #[.int .i64 8, .int .i64 fr, .int .i64 to', .slice qn 6 cn, .slice none 0 0, .slice qe n ce]] W4 fun e w' => ∃ q5 c5, e = .returned (.tuple #[.agg #[.int .i64 ep, .int .i64 ln, .int .i64 f0, .int .i64 f1, .int .i64 t0, .int .i64 t1, .slice q5 n c5], .nilIface]) ∧ EO EE 61 w' W4.heap.size (.slice q5 n c5) L ∧ Below W4.heap.size W4 w' := HBa.mono (fun e w' ⟨h1, h2⟩ => by
      rcases h1 with ⟨_, v5, h5, h6⟩ | ⟨h5, _⟩
      · obtain ⟨q5, c5, e5⟩ := h6.form
        rw [hnn] at e5
        subst e5
        exact ⟨q5, c5, h5, h6, h2⟩
      · exact absurd hok h5)
    clear HGo HBa hgk hok hfr hto
    go_upto_region 7 with (first
      | (go_at_call 15; refine HB2.mono ?_; rintro e W5 ⟨q5, c5, rfl, hO5, b5⟩)
      | (refine al_blk rfl rfl (btA zBt (.slice none 0 0)) (zero_bt _) ?_; intro W6 e6 hX6 b6; clear e6)
      | (refine st_blk rfl rfl hX6 rfl (vs := #[.int .i64 ep, .int .i64 ln, .int .i64 f0, .int .i64 f1, .int .i64 t0, .int .i64 t1, .slice q5 n c5]) rfl (info_bt zBt q5 n c5) rfl (bt_one ⟨ep, ln, (f0, f1), (t0, t1), []⟩ q5 n c5) ?_; intro W7 hX7 C7))
    have b57 := ab_chg b6 C7 (Nat.le_refl _)
    have b47 := ab_trans b5 b57
    have hO7 := hO5.keep b57
    have hX47 := hX4.keep b47
    have hOe7 := hO4.keep b47
    have hqlt : ∀ g, (Value.slice qe n ce).ownBlock = some g → g < W4.heap.size := fun g hg => (World.ownsRow.lt hO4 g hg).2
    obtain ⟨hXb7, hw7⟩ := HX.out W7 (ab_trans bA4 b47)
    have x0 : W7.cell? ⟨w.heap.size, 0, none⟩ = some (.int .i64 ep) := hXb7.at rfl
    have x1 : W7.cell? ⟨w.heap.size, 1, none⟩ = some (.int .i64 ln) := hXb7.at rfl
    have x2 : W7.cell? ⟨w.heap.size, 2, none⟩ = some (.int .i64 f0) := hXb7.at rfl
    have x3 : W7.cell? ⟨w.heap.size, 3, none⟩ = some (.int .i64 f1) := hXb7.at rfl
    have x4 : W7.cell? ⟨w.heap.size, 4, none⟩ = some (.int .i64 t0) := hXb7.at rfl
    have x5 : W7.cell? ⟨w.heap.size, 5, none⟩ = some (.int .i64 t1) := hXb7.at rfl
    have x6 : W7.cell? ⟨w.heap.size, 6, none⟩ = some (.slice q n cap) := hXb7.at rfl
    have hs45 : W4.heap.size ≤ W5.heap.size := b5.size
    clear y0 y1 y2 y3 y4 y5 hX6 C7 b6 b57 hO5 b5 HB2 hX4 hO4
    go_upto_region 9 with (go_at_call 9; refine (HG2 _ hw7).mono ?_; rintro e W8 ⟨rfl, b8⟩)
    have hb48 := ab_trans b47 b8
    have HO8 : Hid (EO EE 61 W8 W4.heap.size (.slice q5 n c5) L ∧ Blk W8 W5.heap.size #[.int .i64 ep, .int .i64 ln, .int .i64 f0, .int .i64 f1, .int .i64 t0, .int .i64 t1, .slice q5 n c5] 33 ∧ Blk W8 W2.heap.size #[.int .i64 8, .int .i64 fr, .int .i64 to', .slice qn 6 cn, .slice none 0 0, .slice qe n ce] 36 ∧ Blk W8 w.heap.size #[.int .i64 ep, .int .i64 ln, .int .i64 f0, .int .i64 f1, .int .i64 t0, .int .i64 t1, .slice q n cap] 33 ∧ ER EE W8 (.slice q n cap) L ∧ Below w.heap.size w W8) := ⟨hO7.keep b8, hX7.keep b8, hX47.keep b8, (HX.out W8 (ab_trans bA4 hb48)).1, HV.out W8 (HX.out W8 (ab_trans bA4 hb48)).2, (HX.out W8 (ab_trans bA4 hb48)).2⟩
    have hOe8 := hOe7.keep b8
    have z5 : W8.cell? ⟨W2.heap.size, 5, none⟩ = some (.slice qe n ce) := (hX47.keep b8).at rfl
    clear x0 x1 x2 x3 x4 x5 x6 hXb7 hw7 hX7 hX47 hO7 hOe7 HG2 b8 hb48 b47 r1 r2 r3 r4
    have HS12 : Hid (w.heap.size ≤ W1.heap.size ∧ W2.heap.size < W4.heap.size ∧ W4.heap.size ≤ W5.heap.size) := ⟨hs1, hx4l, hs45⟩
    obtain ⟨qv, hqv⟩ : ∃ g : Nat, 0 < n → qe = some ⟨g, 0, none⟩ := by
      rcases eo_q17 hOe8 with h0 | ⟨g, h0⟩
      · refine ⟨0, fun h1 => ?_⟩
        obtain ⟨q', c', g', o', e', h2, h3, h4, -⟩ := hOe8.er
        injection e' with e1 _ _
        obtain ⟨h5, _⟩ := h4 (by rw [hnn]; exact h1)
        rw [← e1, h0] at h5
        cases h5
      · exact ⟨g, fun _ => h0⟩
    have hkv : 0 < n → kindR W8 qv 61 := fun h => own_kindR hOe8 (by rw [hqv h]; rfl)
    have hge : 0 < n → W1.heap.size ≤ qv ∧ qv < W4.heap.size := fun h => ⟨(World.ownsRow.lt hOe8 qv (by rw [hqv h]; rfl)).1, hqlt qv (by rw [hqv h]; rfl)⟩
    have hRw : 0 < n → ∃ L' : List Ent, L'.length = n ∧ Rw EE 61 W8 qv ce L' := fun h => by
      have h1 := hOe8
      rw [hqv h, ← hnn] at h1
      exact ⟨L, hnn, h1.rw.1⟩
    have HK8 : Hid (0 < n → kindR W8 qv 61) := hkv
    have HG8 : Hid (0 < n → W1.heap.size ≤ qv ∧ qv < W4.heap.size) := hge
    have HQv : Hid (0 < n → qe = some ⟨qv, 0, none⟩) := hqv
    have HR8 : Hid (0 < n → ∃ L' : List Ent, L'.length = n ∧ Rw EE 61 W8 qv ce L') := hRw
    clear hkv hge hqv hRw hOe8 hqlt
    go_wp2_with fail
    clear z5
    go_loopw [56] (fun z wr => ∃ k : Nat, k ≤ n ∧ z = .int .i64 (k : Int) ∧ (0 < n → ∃ L' : List Ent, L'.length = n ∧ Rw EE 61 wr qv ce L') ∧ Frm (fun j => 0 < n ∧ j = qv) W8 wr) (fun z _ => n - (intOf z).toNat)
    case atStart => exact ⟨0, by omega, rfl, HR8.out, Frm.refl _ _⟩
    case round =>
      obtain ⟨k, hk, rfl, hRw, hF⟩ := hrel
      obtain ⟨h5, hX5, hXn, hXb, hq, hw8⟩ := HO8.out
      have hXn2 := hXn.frm hF (fun ⟨h1, e⟩ => absurd ((HK8.out h1).uniq (e ▸ hXn.kindR)) (by decide))
      by_cases ck : k = n
      · have hX52 := hX5.frm hF (fun ⟨h1, e⟩ => absurd ((HK8.out h1).uniq (e ▸ hX5.kindR)) (by decide))
        have hXb2 := hXb.frm hF (fun ⟨h1, e⟩ => absurd ((HK8.out h1).uniq (e ▸ hXb.kindR)) (by decide))
        have h52 : EO EE 61 wr W4.heap.size (.slice q5 n c5) L := own_at h5 (fun g hg => hF.other g (World.ownsRow.lt h5 g hg).2 (fun ⟨h1, e⟩ => by have := (World.ownsRow.lt h5 g hg).1; have := (HG8.out h1).2; omega))
        have hw9 : Below w.heap.size w wr := hw8.trans (hF.below hw8.size (fun j ⟨h1, e⟩ => by have := (HG8.out h1).1; have := HS12.out.1; omega))
        have hq2 := HV.out wr hw9
        have HSm := rsame17_yes ⟨ep, ln, (f0, f1), (t0, t1), L⟩ (.slice q5 n c5) (.slice q n cap) wr h52.er hq2
        unfold btA at HSm
        try dsimp only at HSm
        have x0 : wr.cell? ⟨w.heap.size, 0, none⟩ = some (.int .i64 ep) := hXb2.at rfl
        have x1 : wr.cell? ⟨w.heap.size, 1, none⟩ = some (.int .i64 ln) := hXb2.at rfl
        have x2 : wr.cell? ⟨w.heap.size, 2, none⟩ = some (.int .i64 f0) := hXb2.at rfl
        have x3 : wr.cell? ⟨w.heap.size, 3, none⟩ = some (.int .i64 f1) := hXb2.at rfl
        have x4 : wr.cell? ⟨w.heap.size, 4, none⟩ = some (.int .i64 t0) := hXb2.at rfl
        have x5 : wr.cell? ⟨w.heap.size, 5, none⟩ = some (.int .i64 t1) := hXb2.at rfl
        have x6 : wr.cell? ⟨w.heap.size, 6, none⟩ = some (.slice q n cap) := hXb2.at rfl
        have u0 : wr.cell? ⟨W5.heap.size, 0, none⟩ = some (.int .i64 ep) := hX52.at rfl
        have u1 : wr.cell? ⟨W5.heap.size, 1, none⟩ = some (.int .i64 ln) := hX52.at rfl
        have u2 : wr.cell? ⟨W5.heap.size, 2, none⟩ = some (.int .i64 f0) := hX52.at rfl
        have u3 : wr.cell? ⟨W5.heap.size, 3, none⟩ = some (.int .i64 f1) := hX52.at rfl
        have u4 : wr.cell? ⟨W5.heap.size, 4, none⟩ = some (.int .i64 t0) := hX52.at rfl
        have u5 : wr.cell? ⟨W5.heap.size, 5, none⟩ = some (.int .i64 t1) := hX52.at rfl
        have u6 : wr.cell? ⟨W5.heap.size, 6, none⟩ = some (.slice q5 n c5) := hX52.at rfl
        have ne0 := eqNE
        have e1 : (fr == fr) = true := by simp
        have e2 : (to' == to') = true := by simp
        have hl2 := hXn2.lt
        have HN2 : Hid (∀ V, Below wr.heap.size wr V → V.cell? ⟨W2.heap.size, 1, none⟩ = some (.int .i64 fr) ∧ V.cell? ⟨W2.heap.size, 2, none⟩ = some (.int .i64 to')) := fun V hV => ⟨(hXn2.keep hV).at rfl, (hXn2.keep hV).at rfl⟩
        clear hX5 hXn hXb hq hX52 hXb2 h52 hq2 h5 hRw hF hXn2 hw8
        go_wp2_with (go_at_call 14; refine HSm.mono ?_; rintro e W10 ⟨rfl, b10⟩; obtain ⟨s1, s2⟩ := HN2.out W10 b10)
        go_ret
        exact ⟨rfl, ab_trans hw9 (by assumption)⟩
      · obtain rfl := HQv.out (by omega)
        obtain ⟨L', hL', hR'⟩ := hRw (by omega)
        have z5 : wr.cell? ⟨W2.heap.size, 5, none⟩ = some (.slice (some ⟨qv, 0, none⟩) n ce) := hXn2.at rfl
        have hki : (k : Int) < (n : Int) := by omega
        have HKN : Hid (k < n) := by show _ < _; omega
        have HN63 : Hid (n ≤ 100) := hn
        clear h5 hX5 hXn hXb hq hw8 hXn2
        go_wp2_with (first
          | (refine bd_blk rfl rfl (EA zc) (by first | exact built_ent0 | simpa using built_ent0) ?_)
          | (refine stEL (E := EE) rfl rfl hR' (by rw [hL']; exact HKN.out) zEnt (EA zc) ez17 rfl rfl rfl (info_ent zc) ?_; intro W9 hR9 C9))
        go_roundw
        case rel => exact ⟨k + 1, by have := HKN.out; omega, by go_num, fun _ => ⟨_, by rw [List.length_set]; exact hL', hR9⟩, hF.trans (frm_chg C9 ⟨by have := HKN.out; omega, rfl⟩)⟩
        case measure => have := HKN.out; simp [intOf]; omega
  · have HB2 : Calls Tryz.prog 15 #[.agg #[.int .i64 8, .int .i64 fr, .int .i64 to', .slice qn 6 cn, .slice none 0 0, .slice qe n ce]] W4 fun e w' => e = .returned (.tuple #[.agg #[.int .i64 0, .int .i64 0, .int .i64 0, .int .i64 0, .int .i64 0, .int .i64 0, .slice none 0 0], Err 2]) ∧ Below W4.heap.size W4 w' := HBa.mono (fun e w' ⟨h1, h2⟩ => by
      rcases h1 with ⟨h5, _⟩ | ⟨_, h5⟩
      · exact absurd h5 hok
      · exact ⟨h5, h2⟩)
    clear HBa
    go_upto_region 7 with (first
      | (go_at_call 15; refine HB2.mono ?_; rintro e W5 ⟨rfl, b5⟩)
      | (refine al_blk rfl rfl (btA zBt (.slice none 0 0)) (zero_bt _) ?_; intro W6 e6 hX6 b6; clear e6)
      | (refine st_blk rfl rfl hX6 rfl (vs := #[.int .i64 0, .int .i64 0, .int .i64 0, .int .i64 0, .int .i64 0, .int .i64 0, .slice none 0 0]) rfl (info_bt zBt none 0 0) rfl (bt_one zBt none 0 0) ?_; intro W7 hX7 C7))
    have b47 := ab_trans b5 (ab_chg b6 C7 (Nat.le_refl _))
    obtain ⟨hXb7, hw7⟩ := HX.out W7 (ab_trans bA4 b47)
    have x0 : W7.cell? ⟨w.heap.size, 0, none⟩ = some (.int .i64 ep) := hXb7.at rfl
    have x1 : W7.cell? ⟨w.heap.size, 1, none⟩ = some (.int .i64 ln) := hXb7.at rfl
    have x2 : W7.cell? ⟨w.heap.size, 2, none⟩ = some (.int .i64 f0) := hXb7.at rfl
    have x3 : W7.cell? ⟨w.heap.size, 3, none⟩ = some (.int .i64 f1) := hXb7.at rfl
    have x4 : W7.cell? ⟨w.heap.size, 4, none⟩ = some (.int .i64 t0) := hXb7.at rfl
    have x5 : W7.cell? ⟨w.heap.size, 5, none⟩ = some (.int .i64 t1) := hXb7.at rfl
    have x6 : W7.cell? ⟨w.heap.size, 6, none⟩ = some (.slice q n cap) := hXb7.at rfl
    have HZ : Hid (∀ V, Below W7.heap.size W7 V → (V.cell? ⟨W5.heap.size, 0, none⟩ = some (.int .i64 0) ∧ V.cell? ⟨W5.heap.size, 1, none⟩ = some (.int .i64 0) ∧ V.cell? ⟨W5.heap.size, 2, none⟩ = some (.int .i64 0) ∧ V.cell? ⟨W5.heap.size, 3, none⟩ = some (.int .i64 0) ∧ V.cell? ⟨W5.heap.size, 4, none⟩ = some (.int .i64 0) ∧ V.cell? ⟨W5.heap.size, 5, none⟩ = some (.int .i64 0) ∧ V.cell? ⟨W5.heap.size, 6, none⟩ = some (.slice none 0 0)) ∧ Below w.heap.size w V) := fun V hV => ⟨⟨(hX7.keep hV).at rfl, (hX7.keep hV).at rfl, (hX7.keep hV).at rfl, (hX7.keep hV).at rfl, (hX7.keep hV).at rfl, (hX7.keep hV).at rfl, (hX7.keep hV).at rfl⟩, ab_trans hw7 hV⟩
    have er0 : ∀ V, ER EE V (.slice none 0 0) [] := fun V => (eo_nil (E := EE) (e := 61) V 0).er
    have HS0 : ∀ V, Calls Tryz.prog 14 #[.agg #[.int .i64 0, .int .i64 0, .int .i64 0, .int .i64 0, .int .i64 0, .int .i64 0, .slice none 0 0], .agg #[.int .i64 0, .int .i64 0, .int .i64 0, .int .i64 0, .int .i64 0, .int .i64 0, .slice none 0 0]] V fun e w' => e = .returned (.bool true) ∧ Below V.heap.size V w' := fun V => rsame17_yes zBt (.slice none 0 0) (.slice none 0 0) V (er0 V) (er0 V)
    have hn8 : ¬ (GkP ⟨ep, ln, (f0, f1), (t0, t1), L⟩ ∧ (0 ≤ fr ∧ fr ≤ 999) ∧ (0 ≤ to' ∧ to' ≤ 999)) := fun h => hok ((gb_iff ep ln f0 f1 t0 t1 fr to' L).2 h)
    have eq2 := eqErr2
    clear y0 y1 y2 y3 y4 y5 hX6 C7 b6 b5 HB2 hX4 hO4 b47 hXb7 hX7 hok er0
    by_cases hgk : GkP ⟨ep, ln, (f0, f1), (t0, t1), L⟩
    · have HG2 : ∀ V, Below w.heap.size w V → Calls Tryz.prog 9 #[.agg #[.int .i64 ep, .int .i64 ln, .int .i64 f0, .int .i64 f1, .int .i64 t0, .int .i64 t1, .slice q n cap]] V fun e w' => e = .returned (.bool true) ∧ Below V.heap.size V w' := fun V hV => (HGo V hV).mono (fun e w' ⟨h1, h2⟩ => ⟨by rcases h1 with ⟨_, h1⟩ | ⟨h1, _⟩ <;> first | exact h1 | exact absurd hgk h1, h2⟩)
      by_cases c1 : fr < 0
      · clear hn8 hgk HGo
        go_upto_region 8 with (go_at_call 9; refine (HG2 _ hw7).mono ?_; rintro e W8 ⟨rfl, b8⟩)
        obtain ⟨⟨u0, u1, u2, u3, u4, u5, u6⟩, hw8⟩ := HZ.out W8 b8
        clear x0 x1 x2 x3 x4 x5 x6 HG2 hw7 b8
        go_wp2_with (go_at_call 14; refine (HS0 _).mono ?_; rintro e W9 ⟨rfl, b9⟩)
        go_ret
        exact ⟨rfl, ab_trans hw8 (by assumption)⟩
      by_cases c2 : 999 < fr
      · clear hn8 hgk HGo
        go_upto_region 8 with (go_at_call 9; refine (HG2 _ hw7).mono ?_; rintro e W8 ⟨rfl, b8⟩)
        obtain ⟨⟨u0, u1, u2, u3, u4, u5, u6⟩, hw8⟩ := HZ.out W8 b8
        clear x0 x1 x2 x3 x4 x5 x6 HG2 hw7 b8
        go_wp2_with (go_at_call 14; refine (HS0 _).mono ?_; rintro e W9 ⟨rfl, b9⟩)
        go_ret
        exact ⟨rfl, ab_trans hw8 (by assumption)⟩
      by_cases c3 : to' < 0
      · clear hn8 hgk HGo
        go_upto_region 8 with (go_at_call 9; refine (HG2 _ hw7).mono ?_; rintro e W8 ⟨rfl, b8⟩)
        obtain ⟨⟨u0, u1, u2, u3, u4, u5, u6⟩, hw8⟩ := HZ.out W8 b8
        clear x0 x1 x2 x3 x4 x5 x6 HG2 hw7 b8
        go_wp2_with (go_at_call 14; refine (HS0 _).mono ?_; rintro e W9 ⟨rfl, b9⟩)
        go_ret
        exact ⟨rfl, ab_trans hw8 (by assumption)⟩
      have c4 : 999 < to' := by
        by_cases c4 : 999 < to'
        · exact c4
        · exact absurd ⟨hgk, ⟨by omega, by omega⟩, ⟨by omega, by omega⟩⟩ hn8
      clear hn8 hgk HGo
      go_upto_region 8 with (go_at_call 9; refine (HG2 _ hw7).mono ?_; rintro e W8 ⟨rfl, b8⟩)
      obtain ⟨⟨u0, u1, u2, u3, u4, u5, u6⟩, hw8⟩ := HZ.out W8 b8
      clear x0 x1 x2 x3 x4 x5 x6 HG2 hw7 b8
      go_wp2_with (go_at_call 14; refine (HS0 _).mono ?_; rintro e W9 ⟨rfl, b9⟩)
      go_ret
      exact ⟨rfl, ab_trans hw8 (by assumption)⟩
    · have HG2 : ∀ V, Below w.heap.size w V → Calls Tryz.prog 9 #[.agg #[.int .i64 ep, .int .i64 ln, .int .i64 f0, .int .i64 f1, .int .i64 t0, .int .i64 t1, .slice q n cap]] V fun e w' => e = .returned (.bool false) ∧ Below V.heap.size V w' := fun V hV => (HGo V hV).mono (fun e w' ⟨h1, h2⟩ => ⟨by rcases h1 with ⟨h1, _⟩ | ⟨_, h1⟩ <;> first | exact h1 | exact absurd h1 hgk, h2⟩)
      clear hn8 hgk HGo
      go_upto_region 8 with (go_at_call 9; refine (HG2 _ hw7).mono ?_; rintro e W8 ⟨rfl, b8⟩)
      obtain ⟨⟨u0, u1, u2, u3, u4, u5, u6⟩, hw8⟩ := HZ.out W8 b8
      clear x0 x1 x2 x3 x4 x5 x6 HG2 hw7 b8
      go_wp2_with (go_at_call 14; refine (HS0 _).mono ?_; rintro e W9 ⟨rfl, b9⟩)
      go_ret
      exact ⟨rfl, ab_trans hw8 (by assumption)⟩
theorem walk {W : World} (ep : Int) (h0 : -9223372036854775808 ≤ ep ∧ ep ≤ 9223372036854775807) (ln : Int) (h1 : -9223372036854775808 ≤ ln ∧ ln ≤ 9223372036854775807) (f0 : Int) (h2 : -9223372036854775808 ≤ f0 ∧ f0 ≤ 9223372036854775807) (f1 : Int) (h3 : -9223372036854775808 ≤ f1 ∧ f1 ≤ 9223372036854775807) (t0 : Int) (h4 : -9223372036854775808 ≤ t0 ∧ t0 ≤ 9223372036854775807) (t1 : Int) (h5 : -9223372036854775808 ≤ t1 ∧ t1 ≤ 9223372036854775807)
    (v : Value) (l : List (Nat → Int)) (hS : SR 76 ek W v l) (fr : Int) (h6 : -9223372036854775808 ≤ fr ∧ fr ≤ 9223372036854775807) (to' : Int) (h7 : -9223372036854775808 ≤ to' ∧ to' ≤ 9223372036854775807) :
    Calls Tryz.prog 5 #[.agg #[.int .i64 ep, .int .i64 ln, .int .i64 f0, .int .i64 f1, .int .i64 t0, .int .i64 t1, v], .int .i64 fr, .int .i64 to'] W fun e w' => e = .returned (.bool true) ∧ Below W.heap.size W w' := by
  by_cases c : l.length ≤ 100
  · exact small17 ep ln f0 f1 t0 t1 v (l.map entOf) fr to' W (er_ents hS) (by rw [List.length_map]; exact c)
  · obtain ⟨q, cap, g, off, rfl, -⟩ := hS
    exact big17 ep ln f0 f1 t0 t1 q l.length cap fr to' W (by omega)

theorem own : ownKnob Tryz.prog.godebug = none := by kernel_rfl
theorem laidOut : laidOutB Tryz.prog = true := by kernel_rfl

set_option maxRecDepth 100000 in
theorem lifted (os : Os) (started : os.Started) (H : Type) (enc : TypeId × Value → H) :
    ReturnsInHanded {} Tryz.checked os 5 .any (Rows.gateBackSpec.pre6 enc Tryz.prog Tryz.f5 Rows.gateBackRow.domain false) (Rows.gateBackSpec.post enc Tryz.prog Tryz.f5 false true false false) := by
  refine returnsInHanded_of_change (C := Tryz.checked) own started (by kernel_rfl) Tryz.func5
    (ChangeSpec.witness6 (enc := enc) (C := Tryz.checked) false ⟨#[], #[.agg #[.int .i64 0, .int .i64 0, .int .i64 0, .int .i64 0, .int .i64 0, .int .i64 0, .slice none 0 0], .int .i64 0, .int .i64 0], []⟩ 8 (by kernel_rfl) (by kernel_rfl) (by kernel_rfl) (by kernel_rfl)) ?_
  intro W base args ds gs before hval0 hW hcnd _
  have hval : ∀ (j : Nat) t v, Tryz.f5.params[j]? = some t → args[j]? = some v → Value.okWide Tryz.prog W .any base t v := hval0
  have hW' := hW
  obtain ⟨p, q, hA0, hV, rfl, hfz, hnd⟩ := hW
  have hA : DataW.TrodAll enc Tryz.prog W 0 (fun _ => true) true Tryz.f5.params.toList args.toList ds p := hA0
  rw [Tryz.params5] at hA hval
  obtain ⟨v0, vs0, d0, ds0, p0, q0, hargs, rfl, rfl, h0, r0⟩ := trodAll_cons hA
  obtain ⟨v1, vs1, d1, ds1, p1, q1, rfl, rfl, rfl, h1, r1⟩ := trodAll_cons r0
  obtain ⟨v2, vs2, d2, ds2, p2, q2, rfl, rfl, rfl, h2, r2⟩ := trodAll_cons r1
  obtain ⟨rfl, rfl, rfl⟩ := trodAll_nil r2
  obtain rfl : args = #[v0, v1, v2] := by cases args; simp_all
  obtain ⟨rfl, rfl⟩ := trodVars_none hV
  have k0 := h0
  have lt0 : ∀ x ∈ p0, x.block < W.heap.size := by obtain ⟨m, hm⟩ := k0; exact DataW.trod_lt m _ _ _ hm
  have k1 := h1
  have lt1 : ∀ x ∈ p1, x.block < W.heap.size := by obtain ⟨m, hm⟩ := k1; exact DataW.trod_lt m _ _ _ hm
  have k2 := h2
  have lt2 : ∀ x ∈ p2, x.block < W.heap.size := by obtain ⟨m, hm⟩ := k2; exact DataW.trod_lt m _ _ _ hm
  obtain ⟨cs0, rfl, hz0, fm0, hx0⟩ := open_struct (n := 7) Tryz.underlying33 (by kernel_rfl) (hval 0 33 v0 rfl rfl) h0
  obtain ⟨e0_0, e0_1, e0_2, e0_3, e0_4, e0_5, e0_6, rfl⟩ : ∃ e0_0 e0_1 e0_2 e0_3 e0_4 e0_5 e0_6, cs0 = #[e0_0, e0_1, e0_2, e0_3, e0_4, e0_5, e0_6] := by
    refine ⟨cs0[0], cs0[1], cs0[2], cs0[3], cs0[4], cs0[5], cs0[6], ?_⟩
    apply Array.ext
    · simpa using hz0
    · intro i h1 h2
      have : i = 0 ∨ i = 1 ∨ i = 2 ∨ i = 3 ∨ i = 4 ∨ i = 5 ∨ i = 6 := by omega
      rcases this with rfl | rfl | rfl | rfl | rfl | rfl | rfl <;> rfl
  obtain ⟨fy0_0, fg0_0⟩ := hx0 0 _ rfl
  obtain ⟨a0_0, ea0_0, w0_0⟩ := flat_cell 8 _ 3 _ _ 0 .i64 fg0_0 (by kernel_rfl)
  obtain rfl : e0_0 = .int .i64 a0_0 := by have h9 : ([e0_0] : List Value)[0]? = some (Value.int .i64 a0_0) := ea0_0; simpa using h9
  obtain ⟨fy0_1, fg0_1⟩ := hx0 1 _ rfl
  obtain ⟨a0_1, ea0_1, w0_1⟩ := flat_cell 8 _ 3 _ _ 0 .i64 fg0_1 (by kernel_rfl)
  obtain rfl : e0_1 = .int .i64 a0_1 := by have h9 : ([e0_1] : List Value)[0]? = some (Value.int .i64 a0_1) := ea0_1; simpa using h9
  obtain ⟨fy0_2, fg0_2⟩ := hx0 2 _ rfl
  obtain ⟨a0_2, ea0_2, w0_2⟩ := flat_cell 8 _ 24 _ _ 0 .i64 fg0_2 (by kernel_rfl)
  obtain rfl : e0_2 = .int .i64 a0_2 := by have h9 : ([e0_2, e0_3] : List Value)[0]? = some (Value.int .i64 a0_2) := ea0_2; simpa using h9
  obtain ⟨a0_3, ea0_3, w0_3⟩ := flat_cell 8 _ 24 _ _ 1 .i64 fg0_2 (by kernel_rfl)
  obtain rfl : e0_3 = .int .i64 a0_3 := by have h9 : ([.int .i64 a0_2, e0_3] : List Value)[1]? = some (Value.int .i64 a0_3) := ea0_3; simpa using h9
  obtain ⟨fy0_3, fg0_3⟩ := hx0 3 _ rfl
  obtain ⟨a0_4, ea0_4, w0_4⟩ := flat_cell 8 _ 24 _ _ 0 .i64 fg0_3 (by kernel_rfl)
  obtain rfl : e0_4 = .int .i64 a0_4 := by have h9 : ([e0_4, e0_5] : List Value)[0]? = some (Value.int .i64 a0_4) := ea0_4; simpa using h9
  obtain ⟨a0_5, ea0_5, w0_5⟩ := flat_cell 8 _ 24 _ _ 1 .i64 fg0_3 (by kernel_rfl)
  obtain rfl : e0_5 = .int .i64 a0_5 := by have h9 : ([.int .i64 a0_4, e0_5] : List Value)[1]? = some (Value.int .i64 a0_5) := ea0_5; simpa using h9
  obtain ⟨fy0_4, fg0_4⟩ := hx0 4 _ rfl
  obtain ⟨sq0_6, sg0_6, so0_6, sn0_6, sk0_6, sl0_6, ee0_6, hl0_6, hk0_6, hm0_6, hp0_6, hg0_6, hc0_6⟩ := rows_of (n := 76) (D := 8) ek Tryz.underlying31 (by kernel_rfl) (by omega) (kinds_of (by kernel_rfl)) fg0_4
  obtain rfl : e0_6 = .slice sq0_6 sn0_6 sk0_6 := by have h9 : [e0_6] = [Value.slice sq0_6 sn0_6 sk0_6] := ee0_6; simpa using h9
  have S0_6_ := sr_rows (ks := ek) hl0_6 hk0_6 hm0_6 hp0_6 hg0_6 hc0_6
  obtain ⟨a1, rfl, rfl, rfl, w1⟩ := open_int Tryz.underlying3 (hval 1 3 v1 rfl rfl) h1
  obtain ⟨a2, rfl, rfl, rfl, w2⟩ := open_int Tryz.underlying3 (hval 2 3 v2 rfl rfl) h2
  clear hA0 hval0
  refine (walk a0_0 (bounds_i64 w0_0) a0_1 (bounds_i64 w0_1) a0_2 (bounds_i64 w0_2) a0_3 (bounds_i64 w0_3) a0_4 (bounds_i64 w0_4) a0_5 (bounds_i64 w0_5) (.slice sq0_6 sn0_6 sk0_6) _ S0_6_ a1 (bounds_i64 w1) a2 (bounds_i64 w2)).mono fun e W' ⟨he, bel⟩ => ?_
  subst he
  exact ⟨_, rfl, _, _, _, [], _, [], hW', trodAll_mk1 (shut_bool Tryz.underlying4 _), (trodAll_cons_mk (Below.trod laidOut (by kernel_rfl) (of_decide_eq_true (by kernel_rfl)) k0 bel lt0) (trodAll_cons_mk (Below.trod laidOut (by kernel_rfl) (of_decide_eq_true (by kernel_rfl)) k1 bel lt1) (trodAll_cons_mk (Below.trod laidOut (by kernel_rfl) (of_decide_eq_true (by kernel_rfl)) k2 bel lt2) trodAll_mk0))), rfl, bel.frame _, fun h => by cases h⟩

theorem over : Rows.gateBackRow.holds Tryz.pinned (OpenSpec.ofChange Rows.gateBackSpec) :=
  OpenClaim.holds_of_wide 5 Tryz.f5 rfl rfl rfl rfl rfl rfl rfl ⟨rfl, rfl, rfl, rfl, rfl⟩ rfl rfl rfl rfl rfl (by kernel_rfl) Tryz.func5 (by kernel_rfl)
    (of_decide_eq_true (by kernel_rfl)) (by unfold Func.isWrapper; first | (rw [if_pos (by decide +kernel)]; kernel_rfl) | (rw [if_neg (by decide +kernel)]; exact ⟨rfl, rfl⟩))
    (fun os started H enc _ => lifted os started H enc)

theorem proved : Rows.GateBackSaid := over
end Go.Proofs.YtggopieeoaggiaaGreat.gateBack
namespace Go.Proofs.YtggopieeoaggiaaGreat
theorem gateBack_holds : Rows.GateBackSaid := gateBack.proved
#print axioms gateBack_holds
end Go.Proofs.YtggopieeoaggiaaGreat
