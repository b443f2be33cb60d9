/-
  What comes in: a row of calls; estuarylaw06.long; a region's S may be made narrower on the way.
  What comes in to the laws of diaries: bytes and lists of bytes with their sizes, rows of truth values, the structs of the laws.
  Slices of strings: texts and same of estuarylaw07.
  Lists of bytes that the law itself makes, at one operation: an empty one, one of one slice, make, append of lists.
  Plain mathematics: what is on a tape behind an Add or a Rewrite that was cut, and a crash; own rows that stay behind a diary's calls.
-/
import Derived.Test.YthmolbcnbcajdaaGreatPk38
import Derived.SizedLaws
import Derived.Test.YthmolbcnbcajdaaGreatPk34
import Derived.Test.YthmolbcnbcajdaaGreatPk36
import Derived.Test.YthmolbcnbcajdaaGreatPk22
import Derived.Test.YthmolbcnbcajdaaGreatPk21
namespace Go.Proofs.YthmolbcnbcajdaaGreat
set_option maxRecDepth 100000
open Go.ChangeShapes Go.WideShapes Go.ChangeAt Go.RowKit
set_option linter.unusedVariables false

/-- A call: its kind, its bytes, its number. -/
structure OpD where
  kd : Int
  nn : Int
  v : Value
  l : List Nat
/-- A call in memory. -/
structure OpAt (W : World) (g o : Nat) (x : OpD) : Prop where
  c0 : W.cell? ⟨g, o, none⟩ = some (.int .i64 x.kd)
  c1 : W.cell? ⟨g, o + 1, none⟩ = some x.v
  c2 : W.cell? ⟨g, o + 2, none⟩ = some (.int .i64 x.nn)
  sl : Sl W x.v x.l
  bk : -9223372036854775808 ≤ x.kd ∧ x.kd ≤ 9223372036854775807
  bn : -9223372036854775808 ≤ x.nn ∧ x.nn ≤ 9223372036854775807
structure Sc (W : World) (q : Option Addr) (n cap g off : Nat) (os : List OpD) : Prop where
  len : os.length = n
  fits : n ≤ cap
  max : cap ≤ 9223372036854775807
  ptr : 0 < n → q = some ⟨g, off, none⟩
  lt : 0 < n → g < W.heap.size
  row : ∀ j x, os[j]? = some x → OpAt W g (off + j * 3) x
  few : n ≤ 3518437208780
section
variable {H : Type} {enc : TypeId × Value → H} {w : World} {base : Nat} {spare : Nat → Bool} {held : Bool}
end
theorem OpAt.keep {W W' : World} {g o : Nat} {x : OpD} (h : OpAt W g o x) (hg : g < W.heap.size) (hb : Below W.heap.size W W') : OpAt W' g o x :=
  ⟨keep_cell hb h.c0 hg, keep_cell hb h.c1 hg, keep_cell hb h.c2 hg, h.sl.keep hb, h.bk, h.bn⟩
end Go.Proofs.YthmolbcnbcajdaaGreat
namespace Go.Proofs.YthmolbcnbcajdaaGreat
open Go.ChangeShapes Go.WideShapes Go.ChangeAt Go.RowKit
set_option linter.unusedVariables false
set_option maxRecDepth 100000

section
variable {H : Type} {enc : TypeId × Value → H} {w : World} {base : Nat} {spare : Nat → Bool} {held : Bool} {P : Program}
/-- A row of truth values. -/
structure Bs (W : World) (q : Option Addr) (n cap g off : Nat) (l : List Bool) : Prop where
  len : l.length = n
  fits : n ≤ cap
  max : cap ≤ 9223372036854775807
  ptr : 0 < n → q = some ⟨g, off, none⟩
  lt : 0 < n → g < W.heap.size
  row : ∀ j x, l[j]? = some x → W.cell? ⟨g, off + j, none⟩ = some (.bool x)
end
end Go.Proofs.YthmolbcnbcajdaaGreat
namespace Go.Proofs.YthmolbcnbcajdaaGreat
open Go.RowKit
set_option linter.unusedVariables false
set_option maxRecDepth 100000

end Go.Proofs.YthmolbcnbcajdaaGreat
namespace Go.Proofs.YthmolbcnbcajdaaGreat
open Go.RowKit
set_option linter.unusedVariables false
set_option maxRecDepth 100000

section
variable {o : Oper} {a : Act} {w : World} {K : Act → World → Prop} {Q : Exit → Act → World → Prop}
theorem mkbW (d : Option Tmp) (hd : o.dst = d) {x y : Operand} (ho : o.op = .makeSlice 68 x y) {n : Nat} {N : Int} (hx : a.eval x = .int .i64 N) (hy : a.eval y = .int .i64 N) (hN : N = (n : Int)) (hn : n ≤ 4000000)
    (h : ∀ v' W' Z, Z.length = n → Byt Z → Ow W' w.heap.size v' Z → Below w.heap.size w W' → K (a.put d v') W') : o.wp Tryz.prog a w K Q := by
  subst hN
  subst hd
  obtain ⟨i, hi, hz0, hz1, hz2⟩ := info_parts infoByte
  obtain ⟨w', hr, ho', hg⟩ := run_make_full (P := Tryz.prog) w w.heap.size 68 5 i _ 1 Tryz.underlying68 hi hz0 hz1 .i64 .i64 n (by rw [hz2]; omega) (by unfold maxLen; omega) (Nat.le_refl _)
  unfold Oper.wp execOp
  simp only [ho, Sem.run_bind, hx, hy, hr, Result.andThen_ok]
  refine h _ _ (List.replicate n 0) (by simp) (fun x hx => by simp at hx; omega) (ow_of (n := n) ?_) (below_grown (Below.refl _ _) hg)
  have e : bys (List.replicate n 0) = (madeCells (Value.cells (.int .u8 0)) (n * 1)).toList := by
    rw [Nat.mul_one, show Value.cells (.int .u8 0) = #[.int .u8 0] from rfl, toList_madeCells_one]
    simp [bys]
  rw [e]
  exact ho'
end
theorem mk_by {ops : Array Oper} {rest : List Oper} {o : Oper} {a : Act} {w : World} {Q : Exit → Act → World → Prop} (hw : Region.wanted o (yielded ops a.tmps) = true) {x y : Operand} (ho : o.op = .makeSlice 68 x y) {n : Nat} {N : Int} (hx : a.eval x = .int .i64 N) (hy : a.eval y = .int .i64 N) (hN : N = (n : Int)) (hn : n ≤ 4000000)
    (h : ∀ v' W' Z, Z.length = n → Byt Z → Ow W' w.heap.size v' Z → Below w.heap.size w W' → wpList Tryz.prog ops Q rest (a.put o.dst v') W') : wpList Tryz.prog ops Q (o :: rest) a w := by
  unfold wpList
  rw [if_pos hw]
  left
  exact mkbW o.dst rfl ho hx hy hN hn h
theorem drewrite_no (base b d nr ns : Nat) (v x : Value) (vs : List Value) (ls : List (List Nat)) (S : TS) (w : World) (hT : Tp w base b v S) (hst : S.steps < 4611686018427387000) (hD : Blk w d (dcs b nr ns) 91) (hx : Ls w x vs ls) (hb : ∀ l ∈ ls, Byt l) (hr14 : ∀ l ∈ ls, l.length ≤ 200000000000000) (hno : ∃ l ∈ ls, 16376 < l.length) :
    Calls Tryz.prog 30 #[tptr d, x] w fun e w' => e = .returned (Err 7) ∧ ∃ v', Tp w' base b v' S ∧ Mw b d w w' v v' ∧ Blk w' d (dcs b nr ns) 91 := by
  have hk : ¬ rwOK ls = true := fun h => by
    obtain ⟨l, hl, h2⟩ := hno
    have := ((rwOK_iff ls).1 h).1 l hl
    omega
  have h7 : rwN S ls = 7 := if_neg hk
  have hS : rwS S ls = S := if_neg hk
  refine (drewrite_any base b d nr ns v x vs ls S w hT hst hD hx hb hr14).mono ?_
  rw [h7, hS]
  rintro e w' ⟨rfl, v', h1, h2, -, h3⟩
  exact ⟨rfl, v', h1, h2, h3 (by decide)⟩
end Go.Proofs.YthmolbcnbcajdaaGreat
namespace Go.Proofs.YthmolbcnbcajdaaGreat
open Go.RowKit
set_option linter.unusedVariables false
set_option maxRecDepth 100000

theorem st_down (S : TS) (h : S.down = false) : (stN S = 5 → (stS S).down = true) ∧ (stN S ≠ 5 → (stS S).down = false) := by
  have e1 : stN S = if duF S.os S.oa then 5 else if duF S.rs S.ra then 6 else 0 := if_neg (by simp [h])
  have e2 : stS S = if duF S.os S.oa then { S with os := duS S.os S.oa, oa := duA S.os S.oa, down := true } else { S with os := duS S.os S.oa, oa := duA S.os S.oa, steps := S.steps + 1, rs := duS S.rs S.ra, ra := duA S.rs S.ra } := if_neg (by simp [h])
  rw [e1, e2]
  cases hd : duF S.os S.oa with
  | true => simp
  | false =>
    simp only [Bool.false_eq_true, if_false]
    constructor
    · intro h5
      split at h5 <;> cases h5
    · intro _
      exact h
theorem cr_l (S : TS) (k : Int) : (crS S k).l = S.l.take (S.sure + kp S k) := rfl
theorem cr_full (S : TS) (h : S.l.length ≤ S.sure) (k : Int) : (crS S k).l = S.l := by rw [cr_l]; exact List.take_of_length_le (by omega)
theorem kp_le (S : TS) (k : Int) : kp S k ≤ S.l.length - S.sure := Nat.min_le_right _ _
theorem cr_part (S : TS) (rs : List (List Nat)) (m : List Nat) (hl : S.l = frms rs ++ frm m) (hs : S.sure = spN rs) (hrs : Rok rs) (hm : m.length ≤ 16376) (hb : Byt m) (k : Int) : spt (crS S k).l = rs ∨ spt (crS S k).l = rs ++ [m] := by
  have hk := kp_le S k
  rw [cr_l, hl, hs]
  rw [hl, hs, List.length_append, frms_len, frm_len] at hk
  generalize kp S k = j at *
  by_cases hj : j = 8 + m.length
  · right
    rw [List.take_of_length_le (by rw [List.length_append, frms_len, frm_len]; omega), ← frms_snoc]
    exact spt_frms _ (hrs.snoc hm hb).len
  · left
    rw [List.take_append, List.take_of_length_le (by rw [frms_len]; omega), frms_len, show spN rs + j - spN rs = j by omega, spt_rows _ hrs.len, spt_stop (ins_cut m j (by omega) hm), List.append_nil]
/-- What a crash leaves behind a call that was cut. -/
structure CutP (S : TS) (N : Nat) (rs nx : List (List Nat)) : Prop where
  num : N = 0 ∨ N = 5 ∨ N = 6
  ok : N = 0 → ∀ k, spt (crS S k).l = nx
  no : N = 6 → ∀ k, spt (crS S k).l = rs
  may : N = 5 → ∀ k, spt (crS S k).l = rs ∨ spt (crS S k).l = nx
  byt : Byt S.l
theorem add_cut (S : TS) (rs : List (List Nat)) (m : List Nat) (hd : S.down = false) (hl : S.l = frms rs) (hs : S.sure = spN rs) (hrs : Rok rs) (hm : m.length ≤ 16376) (hb : Byt m) (hroom : spN rs + (8 + m.length) ≤ 1048576) : CutP (wrS S (frm m)) (wrN S (frm m)) rs (rs ++ [m]) := by
  have hroom' : S.l.length + (frm m).length ≤ 1048576 := by rw [hl, frms_len, frm_len]; exact hroom
  have hap : apN S (frm m).length = stN S := if_pos hroom'
  have haS : apS S (frm m) = if stN S = 0 then { stS S with l := S.l ++ frm m } else stS S := if_pos hroom'
  have hbr : Byt (frms rs) := frms_byt hrs.byt
  have hsl := stS_l S
  have hdn := st_down S hd
  have hsp := spt_frms rs hrs.len
  rcases stN_of S with h0 | h5 | h6
  · rw [if_pos h0] at haS
    have hA1 : (apS S (frm m)).l = frms rs ++ frm m := by rw [haS]; show S.l ++ frm m = _; rw [hl]
    have hA2 : (apS S (frm m)).sure = spN rs := by rw [haS]; show (stS S).sure = _; rw [hsl.2, hs]
    have hA3 : (apS S (frm m)).down = false := by rw [haS]; exact hdn.2 (by omega)
    have hN : wrN S (frm m) = stN (apS S (frm m)) := if_pos (hap.trans h0)
    have hS : wrS S (frm m) = if stN (apS S (frm m)) = 0 then syS (apS S (frm m)) else ctS (syS (apS S (frm m))) := if_pos (hap.trans h0)
    rw [hN, hS]
    generalize apS S (frm m) = A at *
    have hAl := stS_l A
    have hAd := st_down A hA3
    rcases stN_of A with k0 | k5 | k6
    · rw [if_pos k0]
      have e : syS A = { stS A with sure := A.l.length } := if_pos k0
      have e1 : (syS A).l = frms rs ++ frm m := by rw [e]; show (stS A).l = _; rw [hAl.1, hA1]
      have e2 : (syS A).sure = A.l.length := by rw [e]
      refine ⟨.inl k0, fun _ k => ?_, fun h => by omega, fun h => by omega, by rw [e1]; exact hbr.append (frm_byt hb)⟩
      rw [cr_full _ (by rw [e1, e2, hA1]; exact Nat.le_refl _), e1, ← frms_snoc]
      exact spt_frms _ (hrs.snoc hm hb).len
    · rw [if_neg (by omega)]
      have e : syS A = stS A := if_neg (by omega)
      have e0 : ctS (syS A) = stS A := by rw [e]; exact if_pos (hAd.1 k5)
      have e1 : (stS A).l = frms rs ++ frm m := by rw [hAl.1, hA1]
      have e2 : (stS A).sure = spN rs := by rw [hAl.2, hA2]
      rw [e0]
      exact ⟨.inr (.inl k5), fun h => by omega, fun h => by omega, fun _ k => cr_part _ rs m e1 e2 hrs hm hb k, by rw [e1]; exact hbr.append (frm_byt hb)⟩
    · rw [if_neg (by omega)]
      have e : syS A = stS A := if_neg (by omega)
      have e0 : ctS (syS A) = { stS A with l := (stS A).l.take (stS A).sure } := by rw [e]; exact if_neg (by rw [hAd.2 (by omega)]; simp)
      have e1 : (ctS (syS A)).l = frms rs := by rw [e0]; show (stS A).l.take (stS A).sure = _; rw [hAl.1, hAl.2, hA1, hA2, ← frms_len rs, List.take_left]
      have e2 : (ctS (syS A)).sure = spN rs := by rw [e0]; show (stS A).sure = _; rw [hAl.2, hA2]
      refine ⟨.inr (.inr k6), fun h => by omega, fun _ k => ?_, fun h => by omega, by rw [e1]; exact hbr⟩
      rw [cr_full _ (by rw [e1, e2, frms_len]; exact Nat.le_refl _), e1, hsp]
  · rw [if_neg (by omega)] at haS
    have hN : wrN S (frm m) = 5 := by unfold wrN; rw [if_neg (by omega), hap, h5]
    have hS : wrS S (frm m) = stS S := by unfold wrS; rw [if_neg (by omega), if_neg (by omega), haS]; exact if_pos (hdn.1 h5)
    have e1 : (stS S).l = frms rs := by rw [hsl.1, hl]
    have e2 : (stS S).sure = spN rs := by rw [hsl.2, hs]
    rw [hN, hS]
    refine ⟨.inr (.inl rfl), fun h => by omega, fun h => by omega, fun _ k => .inl ?_, by rw [e1]; exact hbr⟩
    rw [cr_full _ (by rw [e1, e2, frms_len]; exact Nat.le_refl _), e1, hsp]
  · rw [if_neg (by omega)] at haS
    have hN : wrN S (frm m) = 6 := by unfold wrN; rw [if_neg (by omega), hap, h6]
    have hS : wrS S (frm m) = { stS S with l := (stS S).l.take (stS S).sure } := by unfold wrS; rw [if_neg (by omega), if_neg (by omega), haS]; exact if_neg (by rw [hdn.2 (by omega)]; simp)
    have e1 : (wrS S (frm m)).l = frms rs := by rw [hS]; show (stS S).l.take (stS S).sure = _; rw [hsl.1, hsl.2, hl, hs]; exact List.take_of_length_le (by rw [frms_len]; exact Nat.le_refl _)
    have e2 : (wrS S (frm m)).sure = spN rs := by rw [hS]; show (stS S).sure = _; rw [hsl.2, hs]
    rw [hN]
    refine ⟨.inr (.inr rfl), fun h => by omega, fun _ k => ?_, fun h => by omega, by rw [e1]; exact hbr⟩
    rw [cr_full _ (by rw [e1, e2, frms_len]; exact Nat.le_refl _), e1, hsp]
theorem rw_cut (S : TS) (rs ls : List (List Nat)) (hd : S.down = false) (hl : S.l = frms rs) (hs : S.sure = spN rs) (hrs : Rok rs) (hls : Rok ls) (hroom : spN ls ≤ 1048576) : CutP (rwS S ls) (rwN S ls) rs ls := by
  have hok := (rwOK_iff ls).2 ⟨hls.len, hroom⟩
  have hN : rwN S ls = stN S := if_pos hok
  have hS : rwS S ls = rpS S (frms ls) := if_pos hok
  have hS2 : rpS S (frms ls) = if stN S = 0 then { stS S with l := frms ls, sure := (frms ls).length } else stS S := if_pos (by rw [frms_len]; exact hroom)
  have hsl := stS_l S
  rw [hN, hS, hS2]
  by_cases h0 : stN S = 0
  · rw [if_pos h0]
    refine ⟨stN_of S, fun _ k => ?_, fun h => by omega, fun h => by omega, frms_byt hls.byt⟩
    rw [cr_full _ (Nat.le_refl _)]
    exact spt_frms ls hls.len
  · rw [if_neg h0]
    have e1 : (stS S).l = frms rs := by rw [hsl.1, hl]
    have e2 : (stS S).sure = spN rs := by rw [hsl.2, hs]
    have key : ∀ k, spt (crS (stS S) k).l = rs := fun k => by
      rw [cr_full _ (by rw [e1, e2, frms_len]; exact Nat.le_refl _), e1]
      exact spt_frms rs hrs.len
    exact ⟨stN_of S, fun h => absurd h h0, fun _ => key, fun _ k => .inl (key k), by rw [e1]; exact frms_byt hrs.byt⟩
/-- Behind a crash an Open answers. -/
theorem op_cr (S : TS) (k : Int) : opN (crS S k) = 0 := by
  have h : stN (crS S k) = 0 := by simp [stN, crS, duF]
  unfold opN
  rw [if_neg (by simp [crS])]
  split
  · exact h
  · rfl
theorem opS_cr (S : TS) (k : Int) (hb : Byt (crS S k).l) (hmx : (crS S k).l.length ≤ 1048576) : (opS (crS S k)).l = frms (spt (crS S k).l) := by
  have h : stN (crS S k) = 0 := by simp [stN, crS, duF]
  have h1 := spt_le _ hb
  have h2 := spt_eq _ hb
  unfold opS
  rw [if_neg (by simp [crS])]
  split
  · have : rpS (crS S k) ((crS S k).l.take (spN (spt (crS S k).l))) = { stS (crS S k) with l := (crS S k).l.take (spN (spt (crS S k).l)), sure := ((crS S k).l.take (spN (spt (crS S k).l))).length } := by
      unfold rpS
      rw [if_pos (by rw [List.length_take]; omega), if_pos h]
    rw [this]
    exact h2
  · rw [← h2, List.take_of_length_le (by omega)]
/-- Own rows of other things stay behind a diary's calls. -/
theorem own_mw {W W' : World} {base tb b d nr ns e n : Nat} {v v' x : Value} {S : TS} {xs : List Value} (h : W.ownsRow base e 1 x n xs) (hT : Tp W tb b v S) (hD : Blk W d (dcs b nr ns) 91) (m : Mw b d W W' v v') (h1 : 72 ≠ e) (h2 : 91 ≠ e) (h3 : e ≠ 5) : W'.ownsRow base e 1 x n xs :=
  own_at h fun g hg => m.other g (h.lt g hg).2 (fun he => blk_own h hT.blk h1 (by rw [← he]; exact hg)) (fun he => blk_own h hD h2 (by rw [← he]; exact hg)) (fun he => sep_ty h hT.own h3 g hg he)
theorem own_mv {W W' : World} {base tb b e n : Nat} {v v' x : Value} {S : TS} {xs : List Value} (h : W.ownsRow base e 1 x n xs) (hT : Tp W tb b v S) (m : Mv b W W' v v') (h1 : 72 ≠ e) (h3 : e ≠ 5) : W'.ownsRow base e 1 x n xs :=
  own_at h fun g hg => m.other g (h.lt g hg).2 (fun he => blk_own h hT.blk h1 (by rw [← he]; exact hg)) (fun he => sep_ty h hT.own h3 g hg he)
end Go.Proofs.YthmolbcnbcajdaaGreat
