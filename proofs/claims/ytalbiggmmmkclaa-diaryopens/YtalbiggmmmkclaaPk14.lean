/-
  Plain mathematics: what is on a tape behind an Add or a Rewrite that was cut, and a crash; own rows that stay behind a diary's calls.
  Slices of texts at one operation: an empty one, one of one text, append.
  Rows come back in the order in which they were added, through openings too: estuarylaw07.DiaryGrows returns true for every input; no condition.
-/
import Derived.Test.YtalbiggmmmkclaaPk13
import Derived.ProofKit
import Derived.OpenShut
import Derived.ChangeOld
import Derived.Below
import Derived.Lib.SmallJoins
namespace Go.Proofs.Ytalbiggmmmkclaa
open Go.RowKit
set_option linter.unusedVariables false
set_option maxRecDepth 100000

theorem st_down (S : TS) (h : S.down = false) : (stN S = 5 → (stS S).down = true) ∧ (stN S ≠ 5 → (stS S).down = false) := by
  have e1 : stN S = if duF S.os S.oa then 5 else if duF S.rs S.ra then 6 else 0 := if_neg (by simp [h])
  have e2 : stS S = if duF S.os S.oa then { S with os := duS S.os S.oa, oa := duA S.os S.oa, down := true } else { S with os := duS S.os S.oa, oa := duA S.os S.oa, steps := S.steps + 1, rs := duS S.rs S.ra, ra := duA S.rs S.ra } := if_neg (by simp [h])
  rw [e1, e2]
  cases hd : duF S.os S.oa with
  | true => simp
  | false =>
    simp only [Bool.false_eq_true, if_false]
    constructor
    · intro h5
      split at h5 <;> cases h5
    · intro _
      exact h
theorem cr_l (S : TS) (k : Int) : (crS S k).l = S.l.take (S.sure + kp S k) := rfl
theorem cr_full (S : TS) (h : S.l.length ≤ S.sure) (k : Int) : (crS S k).l = S.l := by rw [cr_l]; exact List.take_of_length_le (by omega)
theorem kp_le (S : TS) (k : Int) : kp S k ≤ S.l.length - S.sure := Nat.min_le_right _ _
theorem cr_part (S : TS) (rs : List (List Nat)) (m : List Nat) (hl : S.l = frms rs ++ frm m) (hs : S.sure = spN rs) (hrs : Rok rs) (hm : m.length ≤ 16376) (hb : Byt m) (k : Int) : spt (crS S k).l = rs ∨ spt (crS S k).l = rs ++ [m] := by
  have hk := kp_le S k
  rw [cr_l, hl, hs]
  rw [hl, hs, List.length_append, frms_len, frm_len] at hk
  generalize kp S k = j at *
  by_cases hj : j = 8 + m.length
  · right
    rw [List.take_of_length_le (by rw [List.length_append, frms_len, frm_len]; omega), ← frms_snoc]
    exact spt_frms _ (hrs.snoc hm hb).len
  · left
    rw [List.take_append, List.take_of_length_le (by rw [frms_len]; omega), frms_len, show spN rs + j - spN rs = j by omega, spt_rows _ hrs.len, spt_stop (ins_cut m j (by omega) hm), List.append_nil]
/-- What a crash leaves behind a call that was cut. -/
structure CutP (S : TS) (N : Nat) (rs nx : List (List Nat)) : Prop where
  num : N = 0 ∨ N = 5 ∨ N = 6
  ok : N = 0 → ∀ k, spt (crS S k).l = nx
  no : N = 6 → ∀ k, spt (crS S k).l = rs
  may : N = 5 → ∀ k, spt (crS S k).l = rs ∨ spt (crS S k).l = nx
  byt : Byt S.l
theorem add_cut (S : TS) (rs : List (List Nat)) (m : List Nat) (hd : S.down = false) (hl : S.l = frms rs) (hs : S.sure = spN rs) (hrs : Rok rs) (hm : m.length ≤ 16376) (hb : Byt m) (hroom : spN rs + (8 + m.length) ≤ 1048576) : CutP (wrS S (frm m)) (wrN S (frm m)) rs (rs ++ [m]) := by
  have hroom' : S.l.length + (frm m).length ≤ 1048576 := by rw [hl, frms_len, frm_len]; exact hroom
  have hap : apN S (frm m).length = stN S := if_pos hroom'
  have haS : apS S (frm m) = if stN S = 0 then { stS S with l := S.l ++ frm m } else stS S := if_pos hroom'
  have hbr : Byt (frms rs) := frms_byt hrs.byt
  have hsl := stS_l S
  have hdn := st_down S hd
  have hsp := spt_frms rs hrs.len
  rcases stN_of S with h0 | h5 | h6
  · rw [if_pos h0] at haS
    have hA1 : (apS S (frm m)).l = frms rs ++ frm m := by rw [haS]; show S.l ++ frm m = _; rw [hl]
    have hA2 : (apS S (frm m)).sure = spN rs := by rw [haS]; show (stS S).sure = _; rw [hsl.2, hs]
    have hA3 : (apS S (frm m)).down = false := by rw [haS]; exact hdn.2 (by omega)
    have hN : wrN S (frm m) = stN (apS S (frm m)) := if_pos (hap.trans h0)
    have hS : wrS S (frm m) = if stN (apS S (frm m)) = 0 then syS (apS S (frm m)) else ctS (syS (apS S (frm m))) := if_pos (hap.trans h0)
    rw [hN, hS]
    generalize apS S (frm m) = A at *
    have hAl := stS_l A
    have hAd := st_down A hA3
    rcases stN_of A with k0 | k5 | k6
    · rw [if_pos k0]
      have e : syS A = { stS A with sure := A.l.length } := if_pos k0
      have e1 : (syS A).l = frms rs ++ frm m := by rw [e]; show (stS A).l = _; rw [hAl.1, hA1]
      have e2 : (syS A).sure = A.l.length := by rw [e]
      refine ⟨.inl k0, fun _ k => ?_, fun h => by omega, fun h => by omega, by rw [e1]; exact hbr.append (frm_byt hb)⟩
      rw [cr_full _ (by rw [e1, e2, hA1]; exact Nat.le_refl _), e1, ← frms_snoc]
      exact spt_frms _ (hrs.snoc hm hb).len
    · rw [if_neg (by omega)]
      have e : syS A = stS A := if_neg (by omega)
      have e0 : ctS (syS A) = stS A := by rw [e]; exact if_pos (hAd.1 k5)
      have e1 : (stS A).l = frms rs ++ frm m := by rw [hAl.1, hA1]
      have e2 : (stS A).sure = spN rs := by rw [hAl.2, hA2]
      rw [e0]
      exact ⟨.inr (.inl k5), fun h => by omega, fun h => by omega, fun _ k => cr_part _ rs m e1 e2 hrs hm hb k, by rw [e1]; exact hbr.append (frm_byt hb)⟩
    · rw [if_neg (by omega)]
      have e : syS A = stS A := if_neg (by omega)
      have e0 : ctS (syS A) = { stS A with l := (stS A).l.take (stS A).sure } := by rw [e]; exact if_neg (by rw [hAd.2 (by omega)]; simp)
      have e1 : (ctS (syS A)).l = frms rs := by rw [e0]; show (stS A).l.take (stS A).sure = _; rw [hAl.1, hAl.2, hA1, hA2, ← frms_len rs, List.take_left]
      have e2 : (ctS (syS A)).sure = spN rs := by rw [e0]; show (stS A).sure = _; rw [hAl.2, hA2]
      refine ⟨.inr (.inr k6), fun h => by omega, fun _ k => ?_, fun h => by omega, by rw [e1]; exact hbr⟩
      rw [cr_full _ (by rw [e1, e2, frms_len]; exact Nat.le_refl _), e1, hsp]
  · rw [if_neg (by omega)] at haS
    have hN : wrN S (frm m) = 5 := by unfold wrN; rw [if_neg (by omega), hap, h5]
    have hS : wrS S (frm m) = stS S := by unfold wrS; rw [if_neg (by omega), if_neg (by omega), haS]; exact if_pos (hdn.1 h5)
    have e1 : (stS S).l = frms rs := by rw [hsl.1, hl]
    have e2 : (stS S).sure = spN rs := by rw [hsl.2, hs]
    rw [hN, hS]
    refine ⟨.inr (.inl rfl), fun h => by omega, fun h => by omega, fun _ k => .inl ?_, by rw [e1]; exact hbr⟩
    rw [cr_full _ (by rw [e1, e2, frms_len]; exact Nat.le_refl _), e1, hsp]
  · rw [if_neg (by omega)] at haS
    have hN : wrN S (frm m) = 6 := by unfold wrN; rw [if_neg (by omega), hap, h6]
    have hS : wrS S (frm m) = { stS S with l := (stS S).l.take (stS S).sure } := by unfold wrS; rw [if_neg (by omega), if_neg (by omega), haS]; exact if_neg (by rw [hdn.2 (by omega)]; simp)
    have e1 : (wrS S (frm m)).l = frms rs := by rw [hS]; show (stS S).l.take (stS S).sure = _; rw [hsl.1, hsl.2, hl, hs]; exact List.take_of_length_le (by rw [frms_len]; exact Nat.le_refl _)
    have e2 : (wrS S (frm m)).sure = spN rs := by rw [hS]; show (stS S).sure = _; rw [hsl.2, hs]
    rw [hN]
    refine ⟨.inr (.inr rfl), fun h => by omega, fun _ k => ?_, fun h => by omega, by rw [e1]; exact hbr⟩
    rw [cr_full _ (by rw [e1, e2, frms_len]; exact Nat.le_refl _), e1, hsp]
theorem rw_cut (S : TS) (rs ls : List (List Nat)) (hd : S.down = false) (hl : S.l = frms rs) (hs : S.sure = spN rs) (hrs : Rok rs) (hls : Rok ls) (hroom : spN ls ≤ 1048576) : CutP (rwS S ls) (rwN S ls) rs ls := by
  have hok := (rwOK_iff ls).2 ⟨hls.len, hroom⟩
  have hN : rwN S ls = stN S := if_pos hok
  have hS : rwS S ls = rpS S (frms ls) := if_pos hok
  have hS2 : rpS S (frms ls) = if stN S = 0 then { stS S with l := frms ls, sure := (frms ls).length } else stS S := if_pos (by rw [frms_len]; exact hroom)
  have hsl := stS_l S
  rw [hN, hS, hS2]
  by_cases h0 : stN S = 0
  · rw [if_pos h0]
    refine ⟨stN_of S, fun _ k => ?_, fun h => by omega, fun h => by omega, frms_byt hls.byt⟩
    rw [cr_full _ (Nat.le_refl _)]
    exact spt_frms ls hls.len
  · rw [if_neg h0]
    have e1 : (stS S).l = frms rs := by rw [hsl.1, hl]
    have e2 : (stS S).sure = spN rs := by rw [hsl.2, hs]
    have key : ∀ k, spt (crS (stS S) k).l = rs := fun k => by
      rw [cr_full _ (by rw [e1, e2, frms_len]; exact Nat.le_refl _), e1]
      exact spt_frms rs hrs.len
    exact ⟨stN_of S, fun h => absurd h h0, fun _ => key, fun _ k => .inl (key k), by rw [e1]; exact frms_byt hrs.byt⟩
/-- Behind a crash an Open answers. -/
theorem op_cr (S : TS) (k : Int) : opN (crS S k) = 0 := by
  have h : stN (crS S k) = 0 := by simp [stN, crS, duF]
  unfold opN
  rw [if_neg (by simp [crS])]
  split
  · exact h
  · rfl
theorem opS_cr (S : TS) (k : Int) (hb : Byt (crS S k).l) (hmx : (crS S k).l.length ≤ 1048576) : (opS (crS S k)).l = frms (spt (crS S k).l) := by
  have h : stN (crS S k) = 0 := by simp [stN, crS, duF]
  have h1 := spt_le _ hb
  have h2 := spt_eq _ hb
  unfold opS
  rw [if_neg (by simp [crS])]
  split
  · have : rpS (crS S k) ((crS S k).l.take (spN (spt (crS S k).l))) = { stS (crS S k) with l := (crS S k).l.take (spN (spt (crS S k).l)), sure := ((crS S k).l.take (spN (spt (crS S k).l))).length } := by
      unfold rpS
      rw [if_pos (by rw [List.length_take]; omega), if_pos h]
    rw [this]
    exact h2
  · rw [← h2, List.take_of_length_le (by omega)]
/-- Own rows of other things stay behind a diary's calls. -/
theorem own_mw {W W' : World} {base tb b d nr ns e n : Nat} {v v' x : Value} {S : TS} {xs : List Value} (h : W.ownsRow base e 1 x n xs) (hT : Tp W tb b v S) (hD : Blk W d (dcs b nr ns) 80) (m : Mw b d W W' v v') (h1 : 76 ≠ e) (h2 : 80 ≠ e) (h3 : e ≠ 5) : W'.ownsRow base e 1 x n xs :=
  own_at h fun g hg => m.other g (h.lt g hg).2 (fun he => blk_own h hT.blk h1 (by rw [← he]; exact hg)) (fun he => blk_own h hD h2 (by rw [← he]; exact hg)) (fun he => sep_ty h hT.own h3 g hg he)
theorem own_mv {W W' : World} {base tb b e n : Nat} {v v' x : Value} {S : TS} {xs : List Value} (h : W.ownsRow base e 1 x n xs) (hT : Tp W tb b v S) (m : Mv b W W' v v') (h1 : 76 ≠ e) (h3 : e ≠ 5) : W'.ownsRow base e 1 x n xs :=
  own_at h fun g hg => m.other g (h.lt g hg).2 (fun he => blk_own h hT.blk h1 (by rw [← he]; exact hg)) (fun he => sep_ty h hT.own h3 g hg he)
end Go.Proofs.Ytalbiggmmmkclaa
namespace Go.Proofs.Ytalbiggmmmkclaa
open Go.RowKit
set_option linter.unusedVariables false
set_option maxRecDepth 100000

section
variable {o : Oper} {a : Act} {w : World} {K : Act → World → Prop} {Q : Exit → Act → World → Prop}
theorem st0W (d : Option Tmp) (hd : o.dst = d) (ho : o.op = .buildSlice 48 0 #[]) (h : ∀ v' W', W'.ownsRow w.heap.size 9 1 v' 0 (txv []) → Below w.heap.size w W' → K (a.put d v') W') : o.wp Try.prog a w K Q := by
  subst hd
  have hrun := bss0 w
  unfold Oper.wp execOp
  simp only [ho, Sem.run_bind, List.map_toArray, List.map_nil, hrun, Result.andThen_ok]
  exact h _ _ (own_newS w [] 0 rfl (by decide) _ (Nat.le_refl _)) ((Below.refl _ _).alloc (Nat.le_refl _) _)
theorem st1W (d : Option Tmp) (hd : o.dst = d) {x : Operand} (ho : o.op = .buildSlice 48 1 #[(0, x)]) {l : List Nat} (hx : a.eval x = .string (strB l)) (h : ∀ v' W', W'.ownsRow w.heap.size 9 1 v' 1 (txv [l]) → Below w.heap.size w W' → K (a.put d v') W') : o.wp Try.prog a w K Q := by
  subst hd
  have hrun := bss1 l w
  unfold Oper.wp execOp
  simp only [ho, Sem.run_bind, List.map_toArray, List.map_cons, List.map_nil, hx, hrun, Result.andThen_ok]
  exact h _ _ (own_newS w [l] 1 rfl (by decide) _ (Nat.le_refl _)) ((Below.refl _ _).alloc (Nat.le_refl _) _)
theorem appSW (base : Nat) (d : Option Tmp) (hd : o.dst = d) {s x : Operand} (ho : o.op = .call { callee := .builtin .append, args := #[s, x], argTypes := #[48, 48] })
    {v vx : Value} {n k : Nat} {ls ms : List (List Nat)} (hs : a.eval s = v) (hown : w.ownsRow base 9 1 v n (txv ls)) (hx : a.eval x = vx) (hsl : Txs w vx ms) (hm : ms.length = k) (h63 : n + k ≤ 8000000000000) (hA : base ≤ w.heap.size)
    (h : ∀ v' w', w'.ownsRow base 9 1 v' (n + k) (txv (ls ++ ms)) → w.grownBy w' v.ownBlock → K (a.put d v') w') : o.wp Try.prog a w K Q := by
  subst hd
  obtain ⟨v', w', hr, h1, h2, h3⟩ := app_runS base o.type hown hsl hm h63 hA
  unfold Oper.wp execOp
  simp only [ho, resolve, invoke, builtin, Sem.run_bind, Sem.run_pure, Result.andThen_ok, List.map_toArray, List.map_cons, List.map_nil, hs, hx, hr]
  exact h v' w' h1 h2
end
end Go.Proofs.Ytalbiggmmmkclaa
namespace Go.Proofs.Ytalbiggmmmkclaa
theorem spN_bound (rs : List (List Nat)) (M : Nat) (h : ∀ r ∈ rs, r.length ≤ M) : spN rs ≤ (8 + M) * rs.length := by
  induction rs with
  | nil => simp [spN]
  | cons r t ih =>
    have h1 := ih (fun x hx => h x (List.mem_cons_of_mem _ hx))
    have h2 := h r (List.mem_cons_self ..)
    simp only [spN, List.map_cons, List.sum_cons, List.length_cons] at h1 ⊢
    rw [Nat.mul_add]
    omega
end Go.Proofs.Ytalbiggmmmkclaa
namespace Go.Proofs.Ytalbiggmmmkclaa.diaryGrows
open Go.ChangeShapes Go.WideShapes Go.ChangeAt Go.RowKit Go.Joins
set_option linter.unusedVariables false

set_option maxRecDepth 100000 in
set_option maxHeartbeats 4000000 in
theorem walk {W : World} (q : Option Addr) (n c : Nat) (vs : List Value) (ls : List (List Nat)) (hZ : LsZ W (.slice q n c) vs ls) (qo : Option Addr) (no co go oo : Nat) (os : List Bool) (hO : Bs W qo no co go oo os) :
    Calls Try.prog 8 #[.slice q n c, .slice qo no co] W fun e w' => e = .returned (.bool true) ∧ Below W.heap.size W w' := by
  obtain ⟨L0, hz1, hz2⟩ := hZ
  obtain ⟨q', cap', g, off, ep, hc, hm, hp, hg, hr⟩ := L0.open
  have hlen := L0.len
  have hnl : ls.length = n := by cases ep; rfl
  cases ep
  clear hnl
  have n00 := ne00
  have e00 := eq00
  generalize hn : ls.length = n at *
  go_enter Try.func8, Try.ntmps8
  go_upto_region 3 with (go_at_call 9; refine (alive7_any _).mono ?_; rintro e V1 ⟨rfl, hb1⟩)
  by_cases hbig : 100 < n
  · have hbi : (100 : Int) < (n : Int) := by omega
    go_wp2_with fail
    go_ret
    exact ⟨rfl, hb1⟩
  · have hbi : ¬ (100 : Int) < (n : Int) := by omega
    go_wp2_with (first
      | (go_at_call 11; refine (new_any _).mono ?_; rintro e V2 ⟨rfl, h2, b2⟩; have h2' := h2.less hb1.size; have bw2 := ab_trans hb1 b2)
      | (go_at_call 12; refine (dopen_up _ _ _ [] 0 0 _ h2' (by omega) Rok.nil).mono ?_; rintro e V3 ⟨d3, q3, c3, vs3, v3, rfl, hd3, hD3, -, h3, m3⟩; have bw3 := bw2.trans (h2'.below m3)))
    have hWd : W.heap.size ≤ d3 := Nat.le_trans (Nat.le_trans hb1.size b2.size) hd3
    generalize V1.heap.size = b at *
    clear m3 h2 h2' bw2 b2 hd3
    go_loopw [6, 9, 31] (fun dv nv i wr => ∃ (k d : Nat) (v : Value), k ≤ n ∧ i = .int .i64 (k : Int) ∧ dv = tptr d ∧ nv = .int .i64 ((spN (ls.take k) : Nat) : Int) ∧ Tp wr W.heap.size b v (up (frms (ls.take k)) (spN (ls.take k)) (2 * k)) ∧ Blk wr d (dcs b k (spN (ls.take k))) 80 ∧ W.heap.size ≤ d ∧ (∀ r ∈ ls.take k, r.length ≤ 2000) ∧ Below W.heap.size W wr) (fun _ _ i _ => n - (intOf i).toNat)
    case atStart => exact ⟨0, d3, v3, by omega, rfl, rfl, rfl, h3, hD3, hWd, by simp, bw3⟩
    case round =>
      clear h3 hD3 bw3 hWd
      obtain ⟨k, d, v, hk, rfl, rfl, rfl, hT, hD, hWd, hall, hbw⟩ := hrel
      have hsb := spN_bound (ls.take k) 2000 hall
      have hkl : (ls.take k).length = k := by rw [List.length_take]; omega
      rw [hkl] at hsb
      have hfl := frms_len (ls.take k)
      by_cases ck : k = n
      · subst ck
        rw [List.take_of_length_le (by omega)] at *
        have hrok : Rok ls := fun r hr' => ⟨by have := hall r hr'; omega, (hz1 r hr').1⟩
        clear hr hp hg hall hO
        go_upto_region 25 with (go_at_call 12; refine (dopen_up _ _ _ ls _ _ _ hT (by omega) hrok).mono ?_; rintro e V4 ⟨d4, q4, c4, vs4, v4, rfl, hd4, hD4, L4, h4, m4⟩)
        have hD4' := hD.mv hT m4 (by decide) (by decide)
        have bw4 := hbw.trans (hT.below m4)
        rw [hkl] at L4
        clear hD hT m4 hbw hD4 hd4
        go_wp2_with (first
          | (go_at_call 20; refine (dtexts_any _ vs ls _ (L0.keep bw4) (by omega)).mono ?_; rintro e V5 ⟨v5, rfl, T5, b5⟩; obtain ⟨q5, c5, e5⟩ := T5.txs.slice; rw [hkl] at e5; subst e5; have bw5 := ab_trans bw4 b5)
          | (go_at_call 27; refine (dsame_yes _ _ vs4 ls _ (L4.ls.keep b5) T5.txs hrok.byt).mono ?_; rintro e V6 ⟨rfl, b6⟩; have h6 := (h4.keep b5).keep b6; have hD6 := (hD4'.keep b5).keep b6; have bw6 := ab_trans bw5 b6)
          | (go_at_call 29; refine (dlen_any _ _ _ _ _ hD6).mono ?_; rintro e X ⟨rfl, hX⟩; subst X)
          | (go_at_call 30; refine (dbytes_any _ _ _ _ _ hD6).mono ?_; rintro e X ⟨rfl, hX⟩; subst X)
          | (go_at_call 32; refine (tread_any _ _ _ _ _ h6).mono ?_; rintro e V7 ⟨v7, rfl, O7, b7⟩; obtain ⟨q7, c7, e7⟩ := O7.form; rw [show (up (frms ls) (spN ls) (2 * k)).l.length = spN ls from hfl] at e7; subst e7))
        go_ret
        exact ⟨rfl, ab_trans bw6 b7⟩
      · obtain ⟨y, hy⟩ : ∃ y, vs[k]? = some y := ⟨vs[k], List.getElem?_eq_getElem (by omega)⟩
        obtain ⟨l, hl⟩ : ∃ l, ls[k]? = some l := ⟨ls[k], List.getElem?_eq_getElem (by omega)⟩
        obtain rfl := hp (by omega)
        have dy := keep_cell hbw (hr k y hy) (hg (by omega))
        have sy := (L0.each k y l hy hl).keep hbw
        have hbl := (hz1 l (List.mem_of_getElem? hl)).1
        obtain ⟨qy, ny, cy, ey⟩ := sy.slice
        subst ey
        have hly := sy.len
        have hki : (k : Int) < (n : Int) := by omega
        have hkn : k < n := by omega
        have HT1 : Hid (spN (ls.take (k + 1)) = spN (ls.take k) + (8 + l.length)) := spN_next ls k l hl
        have HT2 : Hid (frms (ls.take (k + 1)) = frms (ls.take k) ++ frm l) := frms_next ls k l hl
        have HT3 : Hid (l.length ≤ 2000 → ∀ r ∈ ls.take (k + 1), r.length ≤ 2000) := fun h => all_next ls k l hl hall h
        have HR : Hid (∀ r ∈ ls.take (k + 1), Byt r) := fun r h => (hz1 r (List.mem_of_mem_take h)).1
        have HK1 : Hid ((ls.take (k + 1)).length = k + 1) := by show _ = _; rw [List.length_take]; omega
        clear hr hp hg hy hl hall hz1
        by_cases hlong : 2000 < ny
        · have hli : (2000 : Int) < (ny : Int) := by omega
          go_wp2_with fail
          go_ret
          exact ⟨rfl, hbw⟩
        · have hli : ¬ (2000 : Int) < (ny : Int) := by omega
          go_upto_region 18 with (go_at_call 16; refine (dadd_up _ _ _ _ _ _ _ _ _ _ _ _ hT (by omega) hD sy hbl (by omega) (by omega) (by omega) (by omega)).mono ?_; rintro e V4 ⟨rfl, v4, h4, m4, hD4⟩)
          have bw4 := hbw.trans (m4.below hT hWd)
          have HX := HT3.out (by omega)
          have h5 : Tp V4 W.heap.size b v4 (up (frms (ls.take (k + 1))) (spN (ls.take (k + 1))) (2 * (k + 1))) := by rw [HT2.out, HT1.out, Nat.mul_add, ← hfl]; exact h4
          have hD5 : Blk V4 d (dcs b (k + 1) (spN (ls.take (k + 1)))) 80 := by rw [HT1.out]; exact hD4
          have hrok : Rok (ls.take (k + 1)) := fun r h => ⟨by have := HX r h; omega, HR.out r h⟩
          have HN9 : Hid (((spN (ls.take k) : Nat) : Int) + (8 + (ny : Int)) = ((spN (ls.take (k + 1)) : Nat) : Int)) := by show _ = _; rw [HT1.out]; omega
          clear h4 hD4 m4 hT hD sy dy hbw HT1 HT2 HT3 HR hfl hsb hkl
          by_cases ho : k < no
          · obtain ⟨x, hx⟩ : ∃ x, os[k]? = some x := ⟨os[k]'(by rw [hO.len]; exact ho), List.getElem?_eq_getElem _⟩
            have hoc := hO.fits
            have hom := hO.max
            have hptr := hO.ptr (by omega)
            subst hptr
            have dx := keep_cell bw4 (hO.row k x hx) (hO.lt (by omega))
            have hoi : (k : Int) < (no : Int) := by omega
            cases x with
            | false =>
              go_wp2_with fail
              exact ⟨⟨k + 1, d, v4, by omega, rfl, rfl, by rw [← HN9.out], h5, hD5, hWd, HX, bw4⟩, by simp only [intOf]; omega⟩
            | true =>
              go_wp2_with (go_at_call 12; refine (dopen_up _ _ _ (ls.take (k + 1)) _ _ _ h5 (by omega) hrok).mono ?_; rw [HK1.out]; rintro e V6 ⟨d6, q6, c6, vs6, v6, rfl, hd6, hD6, -, h6, m6⟩)
              have bw6 := bw4.trans (h5.below m6)
              exact ⟨⟨k + 1, d6, v6, by omega, rfl, rfl, by rw [← HN9.out], h6, hD6, Nat.le_trans bw4.size hd6, HX, bw6⟩, by simp only [intOf]; omega⟩
          · have hoi : ¬ (k : Int) < (no : Int) := by omega
            go_wp2_with fail
            exact ⟨⟨k + 1, d, v4, by omega, rfl, rfl, by rw [← HN9.out], h5, hD5, hWd, HX, bw4⟩, by simp only [intOf]; omega⟩

theorem own : ownKnob Try.prog.godebug = none := by kernel_rfl
theorem laidOut : laidOutB Try.prog = true := by kernel_rfl

set_option maxRecDepth 100000 in
theorem lifted (os : Os) (started : os.Started) (H : Type) (enc : TypeId × Value → H) :
    ReturnsInHanded {} Try.checked os 8 .any (Rows.diaryGrowsSpec.pre6 enc Try.prog Try.f8 Rows.diaryGrowsRow.domain false) (Rows.diaryGrowsSpec.post enc Try.prog Try.f8 false true false false) := by
  refine returnsInHanded_of_change_sized (C := Try.checked) own started (by kernel_rfl) Try.func8
    (ChangeSpec.witness6 (enc := enc) (C := Try.checked) false ⟨#[], #[.slice none 0 0, .slice none 0 0], []⟩ 8 (by kernel_rfl) (by kernel_rfl) (by kernel_rfl) (by kernel_rfl)) ?_
  intro W base args ds gs before hval0 hW hcnd hsz _
  have hval : ∀ (j : Nat) t v, Try.f8.params[j]? = some t → args[j]? = some v → Value.okWide Try.prog W .any base t v := hval0
  have hW' := hW
  obtain ⟨p, q, hA0, hV, rfl, hfz, hnd⟩ := hW
  have hA : DataW.TrodAll enc Try.prog W 0 (fun _ => true) true Try.f8.params.toList args.toList ds p := hA0
  rw [Try.params8] at hA hval
  obtain ⟨v0, vs0, d0, ds0, p0, q0, hargs, rfl, rfl, h0, r0⟩ := trodAll_cons hA
  obtain ⟨v1, vs1, d1, ds1, p1, q1, rfl, rfl, rfl, h1, r1⟩ := trodAll_cons r0
  obtain ⟨rfl, rfl, rfl⟩ := trodAll_nil r1
  obtain rfl : args = #[v0, v1] := by cases args; simp_all
  obtain ⟨rfl, rfl⟩ := trodVars_none hV
  have k0 := h0
  have lt0 : ∀ x ∈ p0, x.block < W.heap.size := by obtain ⟨m, hm⟩ := k0; exact DataW.trod_lt m _ _ _ hm
  have k1 := h1
  have lt1 : ∀ x ∈ p1, x.block < W.heap.size := by obtain ⟨m, hm⟩ := k1; exact DataW.trod_lt m _ _ _ hm
  obtain ⟨sq0_, sn0_, sk0_, vs0_, ls0_, rfl, Z0_⟩ := open_listsZ (hval 0 31 v0 rfl rfl) h0 (fun n hn => by simpa using List.all_eq_true.1 hsz n (DataW.weights_mem_each (j := 0) (t := 31) (by kernel_rfl) rfl n hn))
  obtain ⟨sq1_, sn1_, sk1_, sg1_, so1_, sl1_, rfl, Z1_⟩ := open_bools (hval 1 71 v1 rfl rfl) h1
  clear hA0 hval0
  refine (walk sq0_ sn0_ sk0_ vs0_ ls0_ Z0_ sq1_ sn1_ sk1_ sg1_ so1_ sl1_ Z1_).mono fun e W' ⟨he, bel⟩ => ?_
  subst he
  exact ⟨_, rfl, _, _, _, [], _, [], hW', trodAll_mk1 (shut_bool Try.underlying4 _), (trodAll_cons_mk (Below.trod laidOut (by kernel_rfl) (of_decide_eq_true (by kernel_rfl)) k0 bel lt0) (trodAll_cons_mk (Below.trod laidOut (by kernel_rfl) (of_decide_eq_true (by kernel_rfl)) k1 bel lt1) trodAll_mk0)), rfl, bel.frame _, fun h => by cases h⟩

theorem over : Rows.diaryGrowsRow.holds Try.pinned (OpenSpec.ofChange Rows.diaryGrowsSpec) :=
  OpenClaim.holds_of_wide 8 Try.f8 rfl rfl rfl rfl rfl rfl rfl ⟨rfl, rfl, rfl, rfl, rfl⟩ rfl rfl rfl rfl rfl (by kernel_rfl) Try.func8 (by kernel_rfl)
    (of_decide_eq_true (by kernel_rfl)) (by unfold Func.isWrapper; first | (rw [if_pos (by decide +kernel)]; kernel_rfl) | (rw [if_neg (by decide +kernel)]; exact ⟨rfl, rfl⟩))
    (fun os started H enc _ => lifted os started H enc)

theorem proved : Rows.DiaryGrowsSaid := over
end Go.Proofs.Ytalbiggmmmkclaa.diaryGrows
namespace Go.Proofs.Ytalbiggmmmkclaa
theorem diaryGrows_holds : Rows.DiaryGrowsSaid := diaryGrows.proved
#print axioms diaryGrows_holds
end Go.Proofs.Ytalbiggmmmkclaa
