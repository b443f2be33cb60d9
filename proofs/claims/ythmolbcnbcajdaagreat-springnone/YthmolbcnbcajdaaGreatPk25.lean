/-
  Streams in memory; the small functions of stream.
-/
import Derived.Test.YthmolbcnbcajdaaGreatRows
import Derived.Test.YthmolbcnbcajdaaGreatPk13
import Derived.Test.YthmolbcnbcajdaaGreatPk19
import Derived.Test.YthmolbcnbcajdaaGreatPk22
import Derived.Test.YthmolbcnbcajdaaGreatPk21
import Derived.Test.YthmolbcnbcajdaaGreatPk24
namespace Go.Proofs.YthmolbcnbcajdaaGreat
open Go.RowKit
set_option linter.unusedVariables false
set_option maxRecDepth 100000

theorem ok_foldS (p : Prop) [Decidable p] (b : Bool) (w : World) : (if p then Result.ok b w else Result.ok false w) = Result.ok (decide p && b) w := by
  by_cases h : p <;> simp [h]
attribute [local go_sem] ok_foldS
def opA (o : Op5) : Array Value := #[.int .i64 o.s, .int .i64 o.k, .int .i64 o.t, .int .i64 o.y, .int .i64 o.v]
def opV (o : Op5) : Value := .agg (opA o)
def E5 : En Op5 := ⟨5, fun o => (opA o).toList, fun _ => rfl, fun x u hu => by simp [opA] at hu; rcases hu with rfl | rfl | rfl | rfl | rfl <;> rfl, by omega⟩
def E2 : En (Int × Int) := ⟨2, fun p => [.int .i64 p.1, .int .i64 p.2], fun _ => rfl, fun x u hu => by simp at hu; rcases hu with rfl | rfl <;> rfl, by omega⟩
theorem e2_flat (l : List (Int × Int)) : E2.fl l = flat2 l := rfl
theorem infoOp5 : (Tryz.prog.info? 30).map (fun i => (i.zero, i.size, i.bytes)) = some (some (.agg #[.int .i64 0, .int .i64 0, .int .i64 0, .int .i64 0, .int .i64 0]), 5, 40) := by kernel_rfl
theorem infoPl2 : (Tryz.prog.info? 85).map (fun i => (i.zero, i.size, i.bytes)) = some (some (.agg #[.int .i64 0, .int .i64 0]), 2, 16) := by kernel_rfl
theorem sizeOp5 : (Tryz.prog.info? 30).map (·.size) = some 5 := by kernel_rfl
theorem sizePl2 : (Tryz.prog.info? 85).map (·.size) = some 2 := by kernel_rfl
/-- A row of places as place's functions read it. -/
theorem ER.row2 {W : World} {v : Value} {l : List (Int × Int)} (h : ER E2 W v l) : ∃ q cap g off, v = .slice q l.length cap ∧ l.length ≤ cap ∧ cap ≤ 9223372036854775807 ∧ (0 < l.length → q = some ⟨g, off, none⟩) ∧ (0 < l.length → g < W.heap.size) ∧ Row2 W g off l := by
  obtain ⟨q, cap, g, off, h1, h2, h3, h4, h5⟩ := h.at
  exact ⟨q, cap, g, off, h1, h2, h3, fun h => (h4 h).1, fun h => (h4 h).2, fun j x hx => ⟨h5 j x hx 0 _ rfl, h5 j x hx 1 _ rfl⟩⟩
/-- The cells of a stream. -/
def stC (S : Sm) (vr vh vc : Value) : Array Value := #[vr, .int .i64 S.sh, .int .i64 S.hd, .int .i64 S.nx, .int .i64 S.mr.s, .int .i64 S.mr.k, .int .i64 S.mr.t, .int .i64 S.mr.y, .int .i64 S.mr.v, vh, vc]
abbrev sptr (b : Nat) : Value := .pointer (some ⟨b, 0, none⟩)
/-- A stream at block b. -/
structure Sq (W : World) (B b : Nat) (vr vh vc : Value) (S : Sm) : Prop where
  blk : Blk W b (stC S vr vh vc) 76
  ge : B ≤ b
  re : Io W B vr S.res
  he : EO E5 30 W B vh S.ho
  ce : EO E2 85 W B vc S.ct
  ok : Oks S
/-- Its blocks. -/
def bkS (b : Nat) (vh vc : Value) (k : Nat) : Prop := k = b ∨ vh.ownBlock = some k ∨ vc.ownBlock = some k
theorem Sq.keep {W W' : World} {B b : Nat} {vr vh vc : Value} {S : Sm} (h : Sq W B b vr vh vc S) (hb : Below W.heap.size W W') : Sq W' B b vr vh vc S :=
  ⟨h.blk.keep hb, h.ge, h.re.keep hb, h.he.keep hb, h.ce.keep hb, h.ok⟩
theorem Sq.bkge {W : World} {B b : Nat} {vr vh vc : Value} {S : Sm} (h : Sq W B b vr vh vc S) {k : Nat} (hk : bkS b vh vc k) : B ≤ k ∧ k < W.heap.size := by
  rcases hk with rfl | hk | hk
  · exact ⟨h.ge, h.blk.lt⟩
  · exact World.ownsRow.lt h.he k hk
  · exact World.ownsRow.lt h.ce k hk
theorem Sq.frm {W W' : World} {B b : Nat} {vr vh vc : Value} {S : Sm} {X : Nat → Prop} (h : Sq W B b vr vh vc S) (hf : Frm X W W') (hx : ∀ k, bkS b vh vc k → ¬ X k) (hi : NoI X W) : Sq W' B b vr vh vc S :=
  ⟨h.blk.frm hf (hx b (.inl rfl)), h.ge, h.re.frm hf hi, own_at h.he fun g hg => hf.other g (World.ownsRow.lt h.he g hg).2 (hx g (.inr (.inl hg))), own_at h.ce fun g hg => hf.other g (World.ownsRow.lt h.ce g hg).2 (hx g (.inr (.inr hg))), h.ok⟩
/-- None of its blocks holds numbers alone. -/
theorem Sq.noI {W : World} {B b : Nat} {vr vh vc : Value} {S : Sm} (h : Sq W B b vr vh vc S) : NoI (bkS b vh vc) W := by
  intro k hk hi
  rcases hk with rfl | hk | hk
  · exact absurd (h.blk.kindR.uniq hi) (by decide)
  · exact absurd ((own_kindR h.he hk).uniq hi) (by decide)
  · exact absurd ((own_kindR h.ce hk).uniq hi) (by decide)
/-- The cells of a stream, in every world in which nothing of it has turned. -/
theorem Sq.cells {W : World} {B b : Nat} {vr vh vc : Value} {S : Sm} (h : Sq W B b vr vh vc S) : ∀ V, Below W.heap.size W V → V.cell? ⟨b, 0, none⟩ = some vr ∧ V.cell? ⟨b, 1, none⟩ = some (.int .i64 S.sh) ∧ V.cell? ⟨b, 2, none⟩ = some (.int .i64 S.hd) ∧ V.cell? ⟨b, 3, none⟩ = some (.int .i64 S.nx) ∧ V.cell? ⟨b, 4, none⟩ = some (.int .i64 S.mr.s) ∧ V.cell? ⟨b, 5, none⟩ = some (.int .i64 S.mr.k) ∧ V.cell? ⟨b, 6, none⟩ = some (.int .i64 S.mr.t) ∧ V.cell? ⟨b, 7, none⟩ = some (.int .i64 S.mr.y) ∧ V.cell? ⟨b, 8, none⟩ = some (.int .i64 S.mr.v) ∧ V.cell? ⟨b, 9, none⟩ = some vh ∧ V.cell? ⟨b, 10, none⟩ = some vc := fun V hb =>
  ⟨(h.blk.keep hb).at rfl, (h.blk.keep hb).at rfl, (h.blk.keep hb).at rfl, (h.blk.keep hb).at rfl, (h.blk.keep hb).at rfl, (h.blk.keep hb).at rfl, (h.blk.keep hb).at rfl, (h.blk.keep hb).at rfl, (h.blk.keep hb).at rfl, (h.blk.keep hb).at rfl, (h.blk.keep hb).at rfl⟩

/-- From 1 to a number. -/
def wiB (n m : Int) : Bool := decide (1 ≤ n ∧ n ≤ m)
theorem swithin_any (n m : Int) (w : World) : Calls Tryz.prog 59 #[.int .i64 n, .int .i64 m] w fun e w' => e = .returned (.bool (wiB n m)) ∧ w' = w := by
  by_cases c : 1 ≤ n
  · have HV : Hid (decide (n ≤ m) = wiB n m) := by show _ = _; unfold wiB; rw [decide_eq_decide]; omega
    go_enter Tryz.func59, Tryz.ntmps59
    go_wp2_with fail
    go_ret
    exact ⟨ret_bool HV.out, rfl⟩
  · have HV : Hid (false = wiB n m) := by show _ = _; symm; exact decide_eq_false (by omega)
    go_enter Tryz.func59, Tryz.ntmps59
    go_wp2_with fail
    go_ret
    exact ⟨ret_bool HV.out, rfl⟩
theorem sbare_any (o : Op5) (w : World) : Calls Tryz.prog 85 #[opV o] w fun e w' => e = .returned (.bool (decide (o.y = 0 ∧ o.v = 0))) ∧ Below w.heap.size w w' := by
  by_cases c : o.y = 0
  · have HV : Hid ((o.v == 0) = decide (o.y = 0 ∧ o.v = 0)) := by show _ = _; simp [c, Bool.beq_eq_decide_eq]
    unfold opV opA
    go_enter Tryz.func85, Tryz.ntmps85
    go_wp2_with fail
    go_ret
    exact ⟨ret_bool HV.out, by repeat (first | exact Below.refl _ _ | refine ab_alloc ?_ _)⟩
  · have HV : Hid (false = decide (o.y = 0 ∧ o.v = 0)) := by show _ = _; simp [c]
    have hc : (o.y == 0) = false := by simp [c]
    unfold opV opA
    go_enter Tryz.func85, Tryz.ntmps85
    go_wp2_with fail
    go_ret
    exact ⟨ret_bool HV.out, by repeat (first | exact Below.refl _ _ | refine ab_alloc ?_ _)⟩
theorem slanes_any (q : Option Addr) (n cap : Nat) (sh hd : Int) (w : World) (hn : n ≤ 3) (h0 : 1 ≤ sh) (h1 : sh ≤ 4) : Calls Tryz.prog 38 #[.agg #[.slice q n cap, .int .i64 sh, .int .i64 hd]] w fun e w' => e = .returned (.int .i64 ((n : Int) * sh)) ∧ Below w.heap.size w w' := by
  have h2 : 0 ≤ (n : Int) * sh := Int.mul_nonneg (by omega) (by omega)
  have h3 : (n : Int) * sh ≤ 12 := by
    have : (n : Int) * sh ≤ 3 * 4 := Int.mul_le_mul (by omega) h1 (by omega) (by omega)
    omega
  obtain ⟨z, hz⟩ : ∃ z, z = (n : Int) * sh := ⟨_, rfl⟩
  rw [← hz] at h2 h3
  go_enter Tryz.func38, Tryz.ntmps38
  go_wp2_with fail
  go_ret
  exact ⟨rfl, by repeat (first | exact Below.refl _ _ | refine ab_alloc ?_ _)⟩
/-- shape.good. -/
theorem sgood_any (v : Value) (l : List Int) (sh hd : Int) (w : World) (hv : Is w v l) : Calls Tryz.prog 35 #[.agg #[v, .int .i64 sh, .int .i64 hd]] w fun e w' => e = .returned (.bool (goodF l sh hd)) ∧ Below w.heap.size w w' := by
  obtain ⟨q, cap, g, off, rfl, hc, hm, hp, hg, hr⟩ := hv
  generalize hn : l.length = n at *
  obtain ⟨A, hE, hB, hw⟩ := blk1 w #[.slice q n cap, .int .i64 sh, .int .i64 hd] 74
  have hgd : ∀ k, wiB (n : Int) 3 = decide (1 ≤ l.length ∧ l.length ≤ 3) ∧ (k = 0 → k = 0) := fun k => ⟨by unfold wiB; rw [decide_eq_decide, hn]; omega, fun h => h⟩
  go_enter Tryz.func35, Tryz.ntmps35
  go_upto_region 1 with fail
  have c0 := hB.at (i := 0) rfl
  have c1 := hB.at (i := 1) rfl
  have c2 := hB.at (i := 2) rfl
  clear hE
  go_wp2_with fail
  go_loopw [8] (fun i wr => ∃ k : Nat, k ≤ n ∧ i = .int .i64 (k : Int) ∧ (∀ x ∈ l.take k, 1 ≤ x) ∧ wr = A) (fun i _ => n - (intOf i).toNat)
  case atStart => exact ⟨0, by omega, rfl, fun x hx => by simp at hx, rfl⟩
  case round =>
    obtain ⟨k, hk, rfl, hall, rfl⟩ := hrel
    by_cases c : k = n
    · subst c
      rw [List.take_of_length_le (by omega)] at hall
      have HV : Hid (goodF l sh hd = (wiB (k : Int) 3 && wiB sh 4 && wiB hd 64)) := by
        show _ = _
        unfold goodF
        rw [(hgd 0).1, show l.all (fun r => decide (1 ≤ r)) = true by simp only [List.all_eq_true, decide_eq_true_eq]; exact hall, Bool.true_and]
        rfl
      clear hall hr hp hg hgd
      cases a1 : wiB (k : Int) 3
      · have HV' : Hid (goodF l sh hd = false) := by show _ = _; rw [HV.out, a1]; rfl
        go_wp2_with (go_at_call 59; refine (swithin_any _ _ _).mono ?_; rintro e W ⟨rfl, rfl⟩; rw [a1])
        go_ret
        exact ⟨by rw [HV'.out]; rfl, hw⟩
      · cases a2 : wiB sh 4
        · have HV' : Hid (goodF l sh hd = false) := by show _ = _; rw [HV.out, a1, a2]; rfl
          go_wp2_with (go_at_call 59; refine (swithin_any _ _ _).mono ?_; rintro e W ⟨rfl, rfl⟩; first | rw [a1] | rw [a2])
          go_ret
          exact ⟨by rw [HV'.out]; rfl, hw⟩
        · have HV' : Hid (goodF l sh hd = wiB hd 64) := by show _ = _; rw [HV.out, a1, a2]; rfl
          go_wp2_with (go_at_call 59; refine (swithin_any _ _ _).mono ?_; rintro e W ⟨rfl, rfl⟩; first | rw [a1] | rw [a2] | skip)
          go_ret
          exact ⟨by rw [HV'.out]; rfl, hw⟩
    · obtain ⟨x, hx⟩ : ∃ x, l[k]? = some x := ⟨l[k], List.getElem?_eq_getElem (by omega)⟩
      obtain rfl := hp (by omega)
      have hgk := hg (by omega)
      have y0 := keep_cell hw (hr k x hx) hgk
      have hki : (k : Int) < (n : Int) := by omega
      by_cases c1 : x < 1
      · have HV : Hid (goodF l sh hd = false) := by
          show _ = _
          cases hh : goodF l sh hd
          · rfl
          · have := (goodF_iff.1 hh).1 x (List.mem_of_getElem? hx); omega
        clear hall hr hp hg hgd hx
        go_wp2_with fail
        go_ret
        exact ⟨by rw [HV.out]; rfl, hw⟩
      · have HA : Hid (∀ x ∈ l.take (k + 1), 1 ≤ x) := by
          intro z hz
          rw [List.take_add_one, hx] at hz
          rcases List.mem_append.1 hz with hz | hz
          · exact hall z hz
          · simp at hz; subst hz; omega
        clear hall hr hp hg hgd hx
        go_wp2_with fail
        go_roundw
        case rel => exact ⟨k + 1, by omega, by go_num, HA.out, trivial⟩
        case measure => simp [intOf]; omega
theorem mkd_eq (S : Sm) : (!decide (S.mr.s = 0) || (!decide (S.mr.k = 0) || (!decide (S.mr.t = 0) || (!decide (S.mr.y = 0) || !decide (S.mr.v = 0))))) = mkd S := by
  unfold mkd zOp
  cases S.mr with
  | mk a b c d e => simp [Op5.mk.injEq]
theorem smarked_any {B b : Nat} {vr vh vc : Value} {S : Sm} (w : World) (h : Sq w B b vr vh vc S) : Calls Tryz.prog 51 #[sptr b] w fun e w' => e = .returned (.bool (mkd S)) ∧ w' = w := by
  obtain ⟨-, -, -, -, c4, c5, c6, c7, c8, -, -⟩ := h.cells w (Below.refl _ _)
  clear h
  go_enter Tryz.func51, Tryz.ntmps51
  go_wp2_with fail
  go_ret
  exact ⟨ret_bool (mkd_eq S), rfl⟩
theorem spast_any {B b : Nat} {vr vh vc : Value} {S : Sm} (t : Int) (w : World) (h : Sq w B b vr vh vc S) : Calls Tryz.prog 29 #[sptr b, .int .i64 t] w fun e w' => e = .returned (.bool (pas S t)) ∧ w' = w := by
  obtain ⟨-, -, -, -, -, -, c6, -, -, -, -⟩ := h.cells w (Below.refl _ _)
  cases c : mkd S
  · have HV : Hid (pas S t = false) := by show _ = _; unfold pas; rw [c]; rfl
    go_enter Tryz.func29, Tryz.ntmps29
    go_wp2_with (go_at_call 51; refine (smarked_any _ h).mono ?_; rintro e W ⟨rfl, rfl⟩; rw [c])
    go_ret
    exact ⟨by rw [HV.out]; rfl, rfl⟩
  · have HV : Hid (pas S t = decide (t < S.mr.t)) := by show _ = _; unfold pas; rw [c]; rfl
    go_enter Tryz.func29, Tryz.ntmps29
    go_wp2_with (go_at_call 51; refine (smarked_any _ h).mono ?_; rintro e W ⟨rfl, rfl⟩; rw [c])
    go_ret
    exact ⟨by rw [HV.out]; rfl, rfl⟩
theorem snext_any {B b : Nat} {vr vh vc : Value} {S : Sm} (w : World) (h : Sq w B b vr vh vc S) : Calls Tryz.prog 79 #[sptr b] w fun e w' => e = .returned (.int .i64 S.nx) ∧ w' = w := by
  obtain ⟨-, -, -, c3, -, -, -, -, -, -, -⟩ := h.cells w (Below.refl _ _)
  clear h
  go_enter Tryz.func79, Tryz.ntmps79
  go_wp2_with fail
  go_ret
  exact ⟨rfl, rfl⟩
theorem snext_nil (w : World) : Calls Tryz.prog 79 #[.pointer none] w fun e w' => e = .returned (.int .i64 0) ∧ w' = w := by
  go_enter Tryz.func79, Tryz.ntmps79
  go_wp2_with fail
  go_ret
  exact ⟨rfl, rfl⟩
/-- What Last answers. -/
def lastV (S : Sm) : Value := if mkd S = true then .tuple #[.int .i64 S.mr.s, .int .i64 S.mr.t, .bool true] else .tuple #[.int .i64 0, .int .i64 0, .bool false]
theorem slast_any {B b : Nat} {vr vh vc : Value} {S : Sm} (w : World) (h : Sq w B b vr vh vc S) : Calls Tryz.prog 78 #[sptr b] w fun e w' => e = .returned (lastV S) ∧ Below w.heap.size w w' := by
  obtain ⟨-, -, -, -, c4, -, c6, -, -, -, -⟩ := h.cells w (Below.refl _ _)
  cases c : mkd S
  · have HV : Hid (lastV S = .tuple #[.int .i64 0, .int .i64 0, .bool false]) := by show _ = _; unfold lastV; rw [c]; rfl
    go_enter Tryz.func78, Tryz.ntmps78
    go_wp2_with (go_at_call 51; refine (smarked_any _ h).mono ?_; rintro e W ⟨rfl, rfl⟩; rw [c])
    go_ret3
    exact ⟨by rw [HV.out]; rfl, Below.refl _ _⟩
  · have HV : Hid (lastV S = .tuple #[.int .i64 S.mr.s, .int .i64 S.mr.t, .bool true]) := by show _ = _; unfold lastV; rw [c]; rfl
    go_enter Tryz.func78, Tryz.ntmps78
    go_upto_region 3 with (go_at_call 51; refine (smarked_any _ h).mono ?_; rintro e W ⟨rfl, rfl⟩; rw [c])
    go_quiet (fail)
    go_wp2_with fail
    go_ret3
    exact ⟨by rw [HV.out]; rfl, ab_drewN (Below.refl _ _) _⟩
theorem slast_nil (w : World) : Calls Tryz.prog 78 #[.pointer none] w fun e w' => e = .returned (.tuple #[.int .i64 0, .int .i64 0, .bool false]) ∧ w' = w := by
  go_enter Tryz.func78, Tryz.ntmps78
  go_wp2_with fail
  go_ret3
  exact ⟨rfl, rfl⟩
end Go.Proofs.YthmolbcnbcajdaaGreat
