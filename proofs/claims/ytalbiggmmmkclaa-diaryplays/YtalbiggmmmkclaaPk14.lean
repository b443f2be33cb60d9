/-
  Plain mathematics: what is on a tape behind an Add or a Rewrite that was cut, and a crash; own rows that stay behind a diary's calls.
  Slices of texts at one operation: an empty one, one of one text, append.
  The document's Sum, four, Wrap, Unwrap, Split.
  The document's four, Wrap, Unwrap, Split.
-/
import Derived.Test.YtalbiggmmmkclaaPk13
namespace Go.Proofs.Ytalbiggmmmkclaa
open Go.RowKit
set_option linter.unusedVariables false
set_option maxRecDepth 100000

theorem st_down (S : TS) (h : S.down = false) : (stN S = 5 → (stS S).down = true) ∧ (stN S ≠ 5 → (stS S).down = false) := by
  have e1 : stN S = if duF S.os S.oa then 5 else if duF S.rs S.ra then 6 else 0 := if_neg (by simp [h])
  have e2 : stS S = if duF S.os S.oa then { S with os := duS S.os S.oa, oa := duA S.os S.oa, down := true } else { S with os := duS S.os S.oa, oa := duA S.os S.oa, steps := S.steps + 1, rs := duS S.rs S.ra, ra := duA S.rs S.ra } := if_neg (by simp [h])
  rw [e1, e2]
  cases hd : duF S.os S.oa with
  | true => simp
  | false =>
    simp only [Bool.false_eq_true, if_false]
    constructor
    · intro h5
      split at h5 <;> cases h5
    · intro _
      exact h
theorem cr_l (S : TS) (k : Int) : (crS S k).l = S.l.take (S.sure + kp S k) := rfl
theorem cr_full (S : TS) (h : S.l.length ≤ S.sure) (k : Int) : (crS S k).l = S.l := by rw [cr_l]; exact List.take_of_length_le (by omega)
theorem kp_le (S : TS) (k : Int) : kp S k ≤ S.l.length - S.sure := Nat.min_le_right _ _
theorem cr_part (S : TS) (rs : List (List Nat)) (m : List Nat) (hl : S.l = frms rs ++ frm m) (hs : S.sure = spN rs) (hrs : Rok rs) (hm : m.length ≤ 16376) (hb : Byt m) (k : Int) : spt (crS S k).l = rs ∨ spt (crS S k).l = rs ++ [m] := by
  have hk := kp_le S k
  rw [cr_l, hl, hs]
  rw [hl, hs, List.length_append, frms_len, frm_len] at hk
  generalize kp S k = j at *
  by_cases hj : j = 8 + m.length
  · right
    rw [List.take_of_length_le (by rw [List.length_append, frms_len, frm_len]; omega), ← frms_snoc]
    exact spt_frms _ (hrs.snoc hm hb).len
  · left
    rw [List.take_append, List.take_of_length_le (by rw [frms_len]; omega), frms_len, show spN rs + j - spN rs = j by omega, spt_rows _ hrs.len, spt_stop (ins_cut m j (by omega) hm), List.append_nil]
/-- What a crash leaves behind a call that was cut. -/
structure CutP (S : TS) (N : Nat) (rs nx : List (List Nat)) : Prop where
  num : N = 0 ∨ N = 5 ∨ N = 6
  ok : N = 0 → ∀ k, spt (crS S k).l = nx
  no : N = 6 → ∀ k, spt (crS S k).l = rs
  may : N = 5 → ∀ k, spt (crS S k).l = rs ∨ spt (crS S k).l = nx
  byt : Byt S.l
theorem add_cut (S : TS) (rs : List (List Nat)) (m : List Nat) (hd : S.down = false) (hl : S.l = frms rs) (hs : S.sure = spN rs) (hrs : Rok rs) (hm : m.length ≤ 16376) (hb : Byt m) (hroom : spN rs + (8 + m.length) ≤ 1048576) : CutP (wrS S (frm m)) (wrN S (frm m)) rs (rs ++ [m]) := by
  have hroom' : S.l.length + (frm m).length ≤ 1048576 := by rw [hl, frms_len, frm_len]; exact hroom
  have hap : apN S (frm m).length = stN S := if_pos hroom'
  have haS : apS S (frm m) = if stN S = 0 then { stS S with l := S.l ++ frm m } else stS S := if_pos hroom'
  have hbr : Byt (frms rs) := frms_byt hrs.byt
  have hsl := stS_l S
  have hdn := st_down S hd
  have hsp := spt_frms rs hrs.len
  rcases stN_of S with h0 | h5 | h6
  · rw [if_pos h0] at haS
    have hA1 : (apS S (frm m)).l = frms rs ++ frm m := by rw [haS]; show S.l ++ frm m = _; rw [hl]
    have hA2 : (apS S (frm m)).sure = spN rs := by rw [haS]; show (stS S).sure = _; rw [hsl.2, hs]
    have hA3 : (apS S (frm m)).down = false := by rw [haS]; exact hdn.2 (by omega)
    have hN : wrN S (frm m) = stN (apS S (frm m)) := if_pos (hap.trans h0)
    have hS : wrS S (frm m) = if stN (apS S (frm m)) = 0 then syS (apS S (frm m)) else ctS (syS (apS S (frm m))) := if_pos (hap.trans h0)
    rw [hN, hS]
    generalize apS S (frm m) = A at *
    have hAl := stS_l A
    have hAd := st_down A hA3
    rcases stN_of A with k0 | k5 | k6
    · rw [if_pos k0]
      have e : syS A = { stS A with sure := A.l.length } := if_pos k0
      have e1 : (syS A).l = frms rs ++ frm m := by rw [e]; show (stS A).l = _; rw [hAl.1, hA1]
      have e2 : (syS A).sure = A.l.length := by rw [e]
      refine ⟨.inl k0, fun _ k => ?_, fun h => by omega, fun h => by omega, by rw [e1]; exact hbr.append (frm_byt hb)⟩
      rw [cr_full _ (by rw [e1, e2, hA1]; exact Nat.le_refl _), e1, ← frms_snoc]
      exact spt_frms _ (hrs.snoc hm hb).len
    · rw [if_neg (by omega)]
      have e : syS A = stS A := if_neg (by omega)
      have e0 : ctS (syS A) = stS A := by rw [e]; exact if_pos (hAd.1 k5)
      have e1 : (stS A).l = frms rs ++ frm m := by rw [hAl.1, hA1]
      have e2 : (stS A).sure = spN rs := by rw [hAl.2, hA2]
      rw [e0]
      exact ⟨.inr (.inl k5), fun h => by omega, fun h => by omega, fun _ k => cr_part _ rs m e1 e2 hrs hm hb k, by rw [e1]; exact hbr.append (frm_byt hb)⟩
    · rw [if_neg (by omega)]
      have e : syS A = stS A := if_neg (by omega)
      have e0 : ctS (syS A) = { stS A with l := (stS A).l.take (stS A).sure } := by rw [e]; exact if_neg (by rw [hAd.2 (by omega)]; simp)
      have e1 : (ctS (syS A)).l = frms rs := by rw [e0]; show (stS A).l.take (stS A).sure = _; rw [hAl.1, hAl.2, hA1, hA2, ← frms_len rs, List.take_left]
      have e2 : (ctS (syS A)).sure = spN rs := by rw [e0]; show (stS A).sure = _; rw [hAl.2, hA2]
      refine ⟨.inr (.inr k6), fun h => by omega, fun _ k => ?_, fun h => by omega, by rw [e1]; exact hbr⟩
      rw [cr_full _ (by rw [e1, e2, frms_len]; exact Nat.le_refl _), e1, hsp]
  · rw [if_neg (by omega)] at haS
    have hN : wrN S (frm m) = 5 := by unfold wrN; rw [if_neg (by omega), hap, h5]
    have hS : wrS S (frm m) = stS S := by unfold wrS; rw [if_neg (by omega), if_neg (by omega), haS]; exact if_pos (hdn.1 h5)
    have e1 : (stS S).l = frms rs := by rw [hsl.1, hl]
    have e2 : (stS S).sure = spN rs := by rw [hsl.2, hs]
    rw [hN, hS]
    refine ⟨.inr (.inl rfl), fun h => by omega, fun h => by omega, fun _ k => .inl ?_, by rw [e1]; exact hbr⟩
    rw [cr_full _ (by rw [e1, e2, frms_len]; exact Nat.le_refl _), e1, hsp]
  · rw [if_neg (by omega)] at haS
    have hN : wrN S (frm m) = 6 := by unfold wrN; rw [if_neg (by omega), hap, h6]
    have hS : wrS S (frm m) = { stS S with l := (stS S).l.take (stS S).sure } := by unfold wrS; rw [if_neg (by omega), if_neg (by omega), haS]; exact if_neg (by rw [hdn.2 (by omega)]; simp)
    have e1 : (wrS S (frm m)).l = frms rs := by rw [hS]; show (stS S).l.take (stS S).sure = _; rw [hsl.1, hsl.2, hl, hs]; exact List.take_of_length_le (by rw [frms_len]; exact Nat.le_refl _)
    have e2 : (wrS S (frm m)).sure = spN rs := by rw [hS]; show (stS S).sure = _; rw [hsl.2, hs]
    rw [hN]
    refine ⟨.inr (.inr rfl), fun h => by omega, fun _ k => ?_, fun h => by omega, by rw [e1]; exact hbr⟩
    rw [cr_full _ (by rw [e1, e2, frms_len]; exact Nat.le_refl _), e1, hsp]
theorem rw_cut (S : TS) (rs ls : List (List Nat)) (hd : S.down = false) (hl : S.l = frms rs) (hs : S.sure = spN rs) (hrs : Rok rs) (hls : Rok ls) (hroom : spN ls ≤ 1048576) : CutP (rwS S ls) (rwN S ls) rs ls := by
  have hok := (rwOK_iff ls).2 ⟨hls.len, hroom⟩
  have hN : rwN S ls = stN S := if_pos hok
  have hS : rwS S ls = rpS S (frms ls) := if_pos hok
  have hS2 : rpS S (frms ls) = if stN S = 0 then { stS S with l := frms ls, sure := (frms ls).length } else stS S := if_pos (by rw [frms_len]; exact hroom)
  have hsl := stS_l S
  rw [hN, hS, hS2]
  by_cases h0 : stN S = 0
  · rw [if_pos h0]
    refine ⟨stN_of S, fun _ k => ?_, fun h => by omega, fun h => by omega, frms_byt hls.byt⟩
    rw [cr_full _ (Nat.le_refl _)]
    exact spt_frms ls hls.len
  · rw [if_neg h0]
    have e1 : (stS S).l = frms rs := by rw [hsl.1, hl]
    have e2 : (stS S).sure = spN rs := by rw [hsl.2, hs]
    have key : ∀ k, spt (crS (stS S) k).l = rs := fun k => by
      rw [cr_full _ (by rw [e1, e2, frms_len]; exact Nat.le_refl _), e1]
      exact spt_frms rs hrs.len
    exact ⟨stN_of S, fun h => absurd h h0, fun _ => key, fun _ k => .inl (key k), by rw [e1]; exact frms_byt hrs.byt⟩
/-- Behind a crash an Open answers. -/
theorem op_cr (S : TS) (k : Int) : opN (crS S k) = 0 := by
  have h : stN (crS S k) = 0 := by simp [stN, crS, duF]
  unfold opN
  rw [if_neg (by simp [crS])]
  split
  · exact h
  · rfl
theorem opS_cr (S : TS) (k : Int) (hb : Byt (crS S k).l) (hmx : (crS S k).l.length ≤ 1048576) : (opS (crS S k)).l = frms (spt (crS S k).l) := by
  have h : stN (crS S k) = 0 := by simp [stN, crS, duF]
  have h1 := spt_le _ hb
  have h2 := spt_eq _ hb
  unfold opS
  rw [if_neg (by simp [crS])]
  split
  · have : rpS (crS S k) ((crS S k).l.take (spN (spt (crS S k).l))) = { stS (crS S k) with l := (crS S k).l.take (spN (spt (crS S k).l)), sure := ((crS S k).l.take (spN (spt (crS S k).l))).length } := by
      unfold rpS
      rw [if_pos (by rw [List.length_take]; omega), if_pos h]
    rw [this]
    exact h2
  · rw [← h2, List.take_of_length_le (by omega)]
/-- Own rows of other things stay behind a diary's calls. -/
theorem own_mw {W W' : World} {base tb b d nr ns e n : Nat} {v v' x : Value} {S : TS} {xs : List Value} (h : W.ownsRow base e 1 x n xs) (hT : Tp W tb b v S) (hD : Blk W d (dcs b nr ns) 80) (m : Mw b d W W' v v') (h1 : 76 ≠ e) (h2 : 80 ≠ e) (h3 : e ≠ 5) : W'.ownsRow base e 1 x n xs :=
  own_at h fun g hg => m.other g (h.lt g hg).2 (fun he => blk_own h hT.blk h1 (by rw [← he]; exact hg)) (fun he => blk_own h hD h2 (by rw [← he]; exact hg)) (fun he => sep_ty h hT.own h3 g hg he)
theorem own_mv {W W' : World} {base tb b e n : Nat} {v v' x : Value} {S : TS} {xs : List Value} (h : W.ownsRow base e 1 x n xs) (hT : Tp W tb b v S) (m : Mv b W W' v v') (h1 : 76 ≠ e) (h3 : e ≠ 5) : W'.ownsRow base e 1 x n xs :=
  own_at h fun g hg => m.other g (h.lt g hg).2 (fun he => blk_own h hT.blk h1 (by rw [← he]; exact hg)) (fun he => sep_ty h hT.own h3 g hg he)
end Go.Proofs.Ytalbiggmmmkclaa
namespace Go.Proofs.Ytalbiggmmmkclaa
open Go.RowKit
set_option linter.unusedVariables false
set_option maxRecDepth 100000

section
variable {o : Oper} {a : Act} {w : World} {K : Act → World → Prop} {Q : Exit → Act → World → Prop}
theorem st0W (d : Option Tmp) (hd : o.dst = d) (ho : o.op = .buildSlice 48 0 #[]) (h : ∀ v' W', W'.ownsRow w.heap.size 9 1 v' 0 (txv []) → Below w.heap.size w W' → K (a.put d v') W') : o.wp Try.prog a w K Q := by
  subst hd
  have hrun := bss0 w
  unfold Oper.wp execOp
  simp only [ho, Sem.run_bind, List.map_toArray, List.map_nil, hrun, Result.andThen_ok]
  exact h _ _ (own_newS w [] 0 rfl (by decide) _ (Nat.le_refl _)) ((Below.refl _ _).alloc (Nat.le_refl _) _)
theorem st1W (d : Option Tmp) (hd : o.dst = d) {x : Operand} (ho : o.op = .buildSlice 48 1 #[(0, x)]) {l : List Nat} (hx : a.eval x = .string (strB l)) (h : ∀ v' W', W'.ownsRow w.heap.size 9 1 v' 1 (txv [l]) → Below w.heap.size w W' → K (a.put d v') W') : o.wp Try.prog a w K Q := by
  subst hd
  have hrun := bss1 l w
  unfold Oper.wp execOp
  simp only [ho, Sem.run_bind, List.map_toArray, List.map_cons, List.map_nil, hx, hrun, Result.andThen_ok]
  exact h _ _ (own_newS w [l] 1 rfl (by decide) _ (Nat.le_refl _)) ((Below.refl _ _).alloc (Nat.le_refl _) _)
theorem appSW (base : Nat) (d : Option Tmp) (hd : o.dst = d) {s x : Operand} (ho : o.op = .call { callee := .builtin .append, args := #[s, x], argTypes := #[48, 48] })
    {v vx : Value} {n k : Nat} {ls ms : List (List Nat)} (hs : a.eval s = v) (hown : w.ownsRow base 9 1 v n (txv ls)) (hx : a.eval x = vx) (hsl : Txs w vx ms) (hm : ms.length = k) (h63 : n + k ≤ 8000000000000) (hA : base ≤ w.heap.size)
    (h : ∀ v' w', w'.ownsRow base 9 1 v' (n + k) (txv (ls ++ ms)) → w.grownBy w' v.ownBlock → K (a.put d v') w') : o.wp Try.prog a w K Q := by
  subst hd
  obtain ⟨v', w', hr, h1, h2, h3⟩ := app_runS base o.type hown hsl hm h63 hA
  unfold Oper.wp execOp
  simp only [ho, resolve, invoke, builtin, Sem.run_bind, Sem.run_pure, Result.andThen_ok, List.map_toArray, List.map_cons, List.map_nil, hs, hx, hr]
  exact h v' w' h1 h2
end
end Go.Proofs.Ytalbiggmmmkclaa
namespace Go.Proofs.Ytalbiggmmmkclaa
open Go.RowKit
set_option linter.unusedVariables false

/-- The bits that differ, as far as they have been looked at. -/
def bx (a b : Nat) : Nat → Nat
  | 0 => 0
  | k + 1 => bx a b k + (if a / 2 ^ k % 2 ≠ b / 2 ^ k % 2 then 2 ^ k else 0)
theorem xor_bit (a b : Nat) : (a ^^^ b) % 2 = if a % 2 ≠ b % 2 then 1 else 0 := by
  have h := Nat.xor_mod_two_pow (a := a) (b := b) (n := 1)
  rw [Nat.pow_one] at h
  rw [h]
  rcases Nat.mod_two_eq_zero_or_one a with ha | ha <;> rcases Nat.mod_two_eq_zero_or_one b with hb | hb <;> rw [ha, hb] <;> rfl
theorem bx_xor (a b k : Nat) : bx a b k = (a ^^^ b) % 2 ^ k := by
  induction k with
  | zero => simp [bx, Nat.mod_one]
  | succ k ih =>
    rw [bx, ih, Nat.mod_pow_succ, Nat.xor_div_two_pow, xor_bit]
    split <;> simp
theorem xor_low (s b : Nat) (hb : b < 256) : s - s % 256 + bx (s % 256) b 8 = s ^^^ b := by
  have h1 := Nat.xor_mod_two_pow (a := s) (b := b) (n := 8)
  have h2 := Nat.xor_div_two_pow (a := s) (b := b) (n := 8)
  have h3 : b / 2 ^ 8 = 0 := Nat.div_eq_of_lt (by omega)
  have h4 : b % 2 ^ 8 = b := Nat.mod_eq_of_lt (by omega)
  rw [h3, Nat.xor_zero] at h2
  rw [h4] at h1
  have e : bx (s % 256) b 8 = (s ^^^ b) % 2 ^ 8 := by
    rw [bx_xor, Nat.xor_mod_two_pow, Nat.mod_mod_of_dvd _ (by decide), h4, h1]
  rw [e]
  have h5 := Nat.div_add_mod (s ^^^ b) (2 ^ 8)
  have h6 := Nat.div_add_mod s (2 ^ 8)
  rw [h2] at h5
  omega
theorem bx_le (a b k : Nat) : bx a b k < 2 ^ k := by rw [bx_xor]; exact Nat.mod_lt _ (Nat.two_pow_pos k)
set_option maxHeartbeats 1000000 in
theorem rsum_any (v : Value) (l : List Nat) (w : World) (hv : Sl w v l) (hb : Byt l) :
    Calls Try.prog 63 #[v] w fun e w' => e = .returned (.int .u32 ((sm l : Nat) : Int)) ∧ Below w.heap.size w w' := by
  obtain ⟨q, cap, g, off, rfl, hc, hm, hp, hg, hr⟩ := hv.open
  clear hv
  generalize hn : l.length = n at *
  go_enter Try.func63, Try.ntmps63
  go_wp2_with fail
  go_loopw [3, 4] (fun s i wr => ∃ k : Nat, k ≤ n ∧ i = .int .i64 (k : Int) ∧ s = .int .u64 ((sm (l.take k) : Nat) : Int) ∧ Below w.heap.size w wr) (fun _ i _ => n - (intOf i).toNat)
  case atStart => exact ⟨0, by omega, rfl, rfl, Below.refl _ _⟩
  case round =>
    obtain ⟨k, hk, rfl, rfl, hbw⟩ := hrel
    have hs := sm_lt (l.take k)
    by_cases c : k = n
    · have hki : ¬ (k : Int) < (n : Int) := by omega
      rw [List.take_of_length_le (by omega)] at hs ⊢
      clear hp hg hr hb
      go_wp2_with fail
      go_ret
      exact ⟨rfl, hbw⟩
    · obtain ⟨x, hx⟩ : ∃ x, l[k]? = some x := ⟨l[k], List.getElem?_eq_getElem (by omega)⟩
      obtain rfl := hp (by omega)
      have hg1 := hg (by omega)
      have d0 := hr k x hx
      have hxb := hb.at hx
      have hki : (k : Int) < (n : Int) := by omega
      have hkn : k < n := by omega
      have HS : Hid (sm (l.take (k + 1)) = stp (sm (l.take k)) x) := by
        show _ = _
        rw [List.take_add_one, hx, Option.toList_some]
        unfold sm
        rw [smF_snoc]
      generalize hA : sm (l.take k) = s at *
      clear hr hp hg hb hx
      obtain ⟨L, hLd⟩ : ∃ L, s % 256 = L := ⟨_, rfl⟩
      have hlow : L < 256 := by rw [← hLd]; exact Nat.mod_lt _ (by decide)
      have hle : L ≤ s := by rw [← hLd]; exact Nat.mod_le _ _
      have HX' : Hid (s - L + bx L x 8 = s ^^^ x) := by show _ = _; rw [← hLd]; exact xor_low s x hxb
      have hL1 : ((s : Nat) : Int) % 256 = ((L : Nat) : Int) := by omega
      have hL2 : ((s : Nat) : Int).tmod 256 = ((L : Nat) : Int) := by rw [Int.tmod_eq_emod_of_nonneg (by omega)]; omega
      have hL3 : ((s : Nat) : Int) - ((L : Nat) : Int) = ((s - L : Nat) : Int) := by omega
      have hBs : s - L ≤ 4294967296 := by omega
      generalize hB : s - L = B at *
      clear hLd
      go_wp2_with fail
      go_loopw [3, 6] (fun u i wr' => ∃ j : Nat, j ≤ 8 ∧ i = .int .i64 (j : Int) ∧ u = .int .u64 ((B + bx L x j : Nat) : Int) ∧ Below w.heap.size w wr') (fun _ i _ => 8 - (intOf i).toNat)
      case atStart => exact ⟨0, by omega, rfl, by simp [bx], hbw⟩
      case round =>
        clear hbw hL1 hL2 hL3
        obtain ⟨j, hj, rfl, rfl, hbw⟩ := hrel
        by_cases c2 : j = 8
        · subst c2
          have hxl := xor_lt hs hxb
          have HST : Hid (((s ^^^ x) * 16777619) % 4294967296 = stp s x) := rfl
          rw [HX'.out]
          generalize hY : s ^^^ x = Y at *
          have hY1 : (Y : Int) * 16777619 % 4294967296 = ((stp s x : Nat) : Int) := by rw [← HST.out]; omega
          have hY2 : ((Y : Int) * 16777619).tmod 4294967296 = ((stp s x : Nat) : Int) := by rw [Int.tmod_eq_emod_of_nonneg (by omega)]; exact hY1
          go_wp2_with fail
          exact ⟨⟨k + 1, by omega, rfl, by rw [HS.out], hbw⟩, by simp only [intOf]; omega⟩
        · have hj8 : j < 8 := by omega
          have hj8i : (j : Int) < 8 := by omega
          have hbx := bx_le L x j
          have hp2 : 2 ^ j ≤ 128 := by have := Nat.pow_le_pow_right (n := 2) (by decide) (show j ≤ 7 by omega); omega
          have d := keep_cell hbw d0 hg1
          have HBX : Hid (bx L x (j + 1) = bx L x j + (if L / 2 ^ j % 2 ≠ x / 2 ^ j % 2 then 2 ^ j else 0)) := rfl
          have hP1 : (2 : Int) ^ j = ((2 ^ j : Nat) : Int) := by rw [Int.natCast_pow]; rfl
          have hPp : 0 < 2 ^ j := Nat.two_pow_pos j
          have hPw : IntKind.u64.wrap ((2 : Int) ^ j) = ((2 ^ j : Nat) : Int) := by rw [hP1, IntKind.wrap_u64]; omega
          clear hP1
          have hbj : bx L x j < 256 := by omega
          generalize hP : 2 ^ j = P at HBX hPp hPw hp2
          have hP0 : ((P : Int) == 0) = false := by simp; omega
          have hP0' : ¬ (P : Int) = 0 := by omega
          have q1 : ((L : Nat) : Int) / ((P : Nat) : Int) = ((L / P : Nat) : Int) := by rw [Int.natCast_ediv]
          have q2 : ((x : Nat) : Int) / ((P : Nat) : Int) = ((x / P : Nat) : Int) := by rw [Int.natCast_ediv]
          have q3 : ((L : Nat) : Int).tdiv ((P : Nat) : Int) = ((L / P : Nat) : Int) := by rw [Int.tdiv_eq_ediv_of_nonneg (by omega)]; exact q1
          have q4 : ((x : Nat) : Int).tdiv ((P : Nat) : Int) = ((x / P : Nat) : Int) := by rw [Int.tdiv_eq_ediv_of_nonneg (by omega)]; exact q2
          have hdl : L / P ≤ L := Nat.div_le_self _ _
          have hdx : x / P ≤ x := Nat.div_le_self _ _
          generalize hM : L / P = M at *
          generalize hN : x / P = N at *
          clear hbx hM hN
          have x1 := cls_cell d (Nat.lt_of_lt_of_le hg1 hbw.size)
          by_cases ceq : M % 2 = N % 2
          · have HB0 : Hid (bx L x (j + 1) = bx L x j) := by show _ = _; rw [HBX.out, if_neg (by simp [ceq])]; rfl
            have hne1 : (((M : Nat) : Int) % 2 != ((N : Nat) : Int) % 2) = false := by simp; omega
            have hne2 : (((M : Nat) : Int).tmod 2 != ((N : Nat) : Int).tmod 2) = false := by rw [Int.tmod_eq_emod_of_nonneg (by omega), Int.tmod_eq_emod_of_nonneg (by omega)]; exact hne1
            go_upto_region 11 with fail
            refine wp_region_below (by kernel_rfl) (by kernel_rfl) ?_
            have HZ := cls_some wr
            repeat (go_big_quiet_step (fail))
            refine wpQuiet_nil ?_
            rintro _ ⟨y, rfl⟩
            obtain ⟨V9, hb9⟩ := y
            dsimp only
            clear x1 HZ d
            go_wp2_with fail
            exact ⟨⟨j + 1, by omega, rfl, by rw [HB0.out], ab_trans hbw hb9⟩, by simp only [intOf]; omega⟩
          · have HB0 : Hid (bx L x (j + 1) = bx L x j + P) := by show _ = _; rw [HBX.out, if_pos ceq]
            have hne1 : (((M : Nat) : Int) % 2 != ((N : Nat) : Int) % 2) = true := by simp; omega
            have hne2 : (((M : Nat) : Int).tmod 2 != ((N : Nat) : Int).tmod 2) = true := by rw [Int.tmod_eq_emod_of_nonneg (by omega), Int.tmod_eq_emod_of_nonneg (by omega)]; exact hne1
            go_upto_region 11 with fail
            refine wp_region_below (by kernel_rfl) (by kernel_rfl) ?_
            have HZ := cls_some wr
            repeat (go_big_quiet_step (fail))
            refine wpQuiet_nil ?_
            rintro _ ⟨y, rfl⟩
            obtain ⟨V9, hb9⟩ := y
            dsimp only
            clear x1 HZ d
            go_wp2_with fail
            exact ⟨⟨j + 1, by omega, rfl, by rw [HB0.out]; congr 1; omega, ab_trans hbw hb9⟩, by simp only [intOf]; omega⟩
end Go.Proofs.Ytalbiggmmmkclaa
namespace Go.Proofs.Ytalbiggmmmkclaa
open Go.RowKit
set_option linter.unusedVariables false

theorem spl4 (n : Nat) : spl n 4 = [n % 256, n / 256 % 256, n / 65536 % 256, n / 16777216 % 256] := by
  simp [spl]
set_option maxHeartbeats 400000 in
theorem four_ref (n : Nat) (w : World) (hn : n < 4294967296) :
    Calls Try.prog 62 #[.int .u32 ((n : Nat) : Int)] w fun e w' => ∃ v', e = .returned v' ∧ Ow w' w.heap.size v' (spl n 4) ∧ v' ≠ .slice none 0 0 ∧ Below w.heap.size w w' := by
  have HD : Hid (spl n 4 = [n % 256, n / 256 % 256, n / 65536 % 256, n / 16777216 % 256]) := spl4 n
  have h0 : ((n : Nat) : Int) % 256 = ((n % 256 : Nat) : Int) := by omega
  have h1 : ((n : Nat) : Int) / 256 % 256 = ((n / 256 % 256 : Nat) : Int) := by omega
  have h2 : ((n : Nat) : Int) / 65536 % 256 = ((n / 65536 % 256 : Nat) : Int) := by omega
  have h3 : ((n : Nat) : Int) / 16777216 % 256 = ((n / 16777216 % 256 : Nat) : Int) := by omega
  have h3' : ((n : Nat) : Int) / 16777216 = ((n / 16777216 % 256 : Nat) : Int) := by omega
  generalize n % 256 = a0 at HD h0
  generalize n / 256 % 256 = a1 at HD h1
  generalize n / 65536 % 256 = a2 at HD h2
  generalize n / 16777216 % 256 = a3 at HD h3 h3'
  have H0 : Hid (((n : Nat) : Int) % 256 = ((a0 : Nat) : Int)) := h0
  have H1 : Hid (((n : Nat) : Int) / 256 % 256 = ((a1 : Nat) : Int)) := h1
  have H2 : Hid (((n : Nat) : Int) / 65536 % 256 = ((a2 : Nat) : Int)) := h2
  have H3 : Hid (((n : Nat) : Int) / 16777216 % 256 = ((a3 : Nat) : Int)) := h3
  have H4 : Hid (((n : Nat) : Int) / 16777216 = ((a3 : Nat) : Int)) := h3'
  clear h0 h1 h2 h3 h3'
  go_enter Try.func62, Try.ntmps62
  go_wp2_with (refine bs_by rfl rfl [a0, a1, a2, a3] (vs := #[(0, .int .u8 ((a0 : Nat) : Int)), (1, .int .u8 ((a1 : Nat) : Int)), (2, .int .u8 ((a2 : Nat) : Int)), (3, .int .u8 ((a3 : Nat) : Int))]) (by first | (rw [← H0.out, ← H1.out, ← H2.out, ← H3.out]; simp only [List.map_toArray, List.map_cons, List.map_nil]; rfl) | (rw [← H0.out, ← H1.out, ← H2.out, ← H4.out]; simp only [List.map_toArray, List.map_cons, List.map_nil]; rfl)) (bsb4 _ _ _ _ _) rfl (by decide) ?_; intro W1 hN b1 z1)
  go_ret
  refine ⟨_, rfl, ?_, ?_, b1⟩
  · rw [HD.out]; exact ow_of hN
  · intro e; cases e
set_option maxHeartbeats 400000 in
theorem rwrap_no (v : Value) (l : List Nat) (w : World) (hv : Sl w v l) (hno : 16376 < l.length) :
    Calls Try.prog 57 #[v] w fun e w' => e = .returned (.tuple #[.slice none 0 0, .int .i64 7]) ∧ Below w.heap.size w w' := by
  obtain ⟨q, cap, e, -⟩ := id hv
  subst e
  generalize hn : l.length = n at *
  clear hv
  go_enter Try.func57, Try.ntmps57
  go_wp2_with fail
  go_ret2
  exact ⟨rfl, Below.refl _ _⟩
set_option maxHeartbeats 1000000 in
theorem rwrap_ok (v : Value) (l : List Nat) (w : World) (hv : Sl w v l) (hb : Byt l) (hok : l.length ≤ 16376) :
    Calls Try.prog 57 #[v] w fun e w' => ∃ v', e = .returned (.tuple #[v', .int .i64 0]) ∧ Ow w' w.heap.size v' (frm l) ∧ Below w.heap.size w w' := by
  obtain ⟨q, cap, e, -⟩ := id hv
  subst e
  have hsm := sm_lt l
  have HF : Hid (frm l = spl l.length 4 ++ spl (sm l) 4 ++ l) := rfl
  generalize hn : l.length = n at *
  generalize hs : sm l = s at *
  have HSum : Hid (∀ W, Below w.heap.size w W → Calls Try.prog 63 #[.slice q n cap] W fun e w' => e = .returned (.int .u32 ((s : Nat) : Int)) ∧ Below W.heap.size W w') := fun W h => by rw [← hs]; exact rsum_any _ l W (hv.keep h) hb
  go_enter Try.func57, Try.ntmps57
  go_wp2_with fail
  refine (four_ref n _ (by omega)).mono ?_
  rintro e W1 ⟨v1, rfl, HO1, hn1, hb1⟩
  go_wp2_with (go_at_call 63; refine (HSum.out _ hb1).mono ?_; rintro e W2 ⟨rfl, hb2⟩)
  refine (four_ref s _ hsm).mono ?_
  rintro e W3 ⟨v3, rfl, HO3, hn3, hb3⟩
  have HO13 := HO1.keep (ab_trans hb2 hb3)
  have hw3 := ab_trans hb1 (ab_trans hb2 hb3)
  have HL4 : Hid ((spl n 4).length + 4 ≤ 1000000) := by show _ ≤ _; rw [spl_len]; omega
  have HL8 : Hid ((spl s 4).length = 4) := spl_len _ _
  go_upto_region 4 with (at_builtin; refine app_by _ rfl rfl rfl HO13 rfl HO3.sl HL8.out HL4.out hw3 ?_; intro v4 W4 hown4 hnil4 hb4 hgr4 hat4)
  have HO4 := ow_of hown4
  have HL9 : Hid ((spl n 4 ++ spl s 4).length + n ≤ 1000000) := by show _ ≤ _; rw [List.length_append, spl_len, spl_len]; omega
  go_wp2_with (at_builtin; refine app_by _ rfl rfl rfl HO4 rfl (hv.keep hb4) hn HL9.out hb4 ?_; intro v5 W5 hown5 hnil5 hb5 hgr5 hat5)
  go_ret2
  exact ⟨_, rfl, by rw [HF.out]; exact ow_of hown5, hb5⟩
theorem val4 (l : List Nat) (h : 4 ≤ l.length) : val (l.take 4) = l.getD 0 0 + 256 * l.getD 1 0 + 65536 * l.getD 2 0 + 16777216 * l.getD 3 0 := by
  match l, h with
  | a :: b :: c :: d :: r, _ => simp [val]; omega
set_option maxHeartbeats 1000000 in
theorem runwrap_short (v : Value) (l : List Nat) (w : World) (hv : Sl w v l) (h8 : l.length < 8) :
    Calls Try.prog 52 #[v] w fun e w' => e = .returned (.tuple #[.slice none 0 0, .int .i64 0]) ∧ Below w.heap.size w w' := by
  obtain ⟨q, cap, e, -⟩ := id hv
  subst e
  generalize hn : l.length = n at *
  clear hv
  go_enter Try.func52, Try.ntmps52
  go_wp2_with fail
  go_ret2
  exact ⟨rfl, Below.refl _ _⟩
/-- What the document's Unwrap answers. -/
structure UP (W : World) (base : Nat) (l : List Nat) (e : Ending) : Prop where
  ok : insOK l = true → ∃ v', e = .returned (.tuple #[v', .int .i64 ((8 + (insB l).length : Nat) : Int)]) ∧ Ow W base v' (insB l)
  no : insOK l = false → e = .returned (.tuple #[.slice none 0 0, .int .i64 0])
set_option maxHeartbeats 2000000 in
theorem runwrap_long (v : Value) (l : List Nat) (w : World) (hv : Sl w v l) (hb : Byt l) (hl : l.length ≤ 1048576) (h8 : 8 ≤ l.length) :
    Calls Try.prog 52 #[v] w fun e w' => UP w' w.heap.size l e ∧ Below w.heap.size w w' := by
  obtain ⟨q, cap, g, off, rfl, hc, hm, hp, hg, hr⟩ := hv.open
  obtain rfl := hp (by omega)
  have hg1 := hg (by omega)
  have d0 := hr 0 _ (getD_at (by omega))
  have d1 := hr 1 _ (getD_at (by omega))
  have d2 := hr 2 _ (getD_at (by omega))
  have d3 := hr 3 _ (getD_at (by omega))
  have b0 := hb.getD 0
  have b1 := hb.getD 1
  have b2 := hb.getD 2
  have b3 := hb.getD 3
  have HV := val4 l (by omega)
  have HOK : Hid (insOK l = true ↔ 8 ≤ l.length ∧ val (l.take 4) ≤ 16376 ∧ val (l.take 4) ≤ l.length - 8 ∧ sm (insB l) = val ((l.drop 4).take 4)) := insOK_iff l
  have HIO : Hid (val (l.take 4) ≤ 16376 → val (l.take 4) ≤ l.length - 8 → (frm (insB l) = l.take (8 + val (l.take 4)) ↔ insOK l = true)) := fun h1 h2 => ins_of hb h8 h1 h2
  have HIB : Hid (insB l = (l.drop 8).take (val (l.take 4))) := rfl
  have HIL : Hid (insOK l = true → (insB l).length = val (l.take 4)) := fun h => insB_len h
  generalize hc4 : val (l.take 4) = c at *
  generalize l.getD 0 0 = x0 at *
  generalize l.getD 1 0 = x1 at *
  generalize l.getD 2 0 = x2 at *
  generalize l.getD 3 0 = x3 at *
  generalize hn : l.length = n at *
  have hval : (x0 : Int) + 256 * (x1 : Int) + 65536 * (x2 : Int) + 16777216 * (x3 : Int) = ((c : Nat) : Int) := by omega
  rw [Nat.add_zero] at d0
  have y0 := cls_cell d0 hg1
  have y1 := cls_cell d1 hg1
  have y2 := cls_cell d2 hg1
  have y3 := cls_cell d3 hg1
  have hcb : c < 4294967296 := by omega
  clear hr hp hg HV
  go_enter Try.func52, Try.ntmps52
  go_upto_region 3 with fail
  refine wp_region_below (by kernel_rfl) (by kernel_rfl) ?_
  have HZ := cls_some w
  repeat (go_big_quiet_step (fail))
  refine wpQuiet_nil ?_
  rintro _ ⟨y, rfl⟩
  obtain ⟨V1, hb1⟩ := y
  dsimp only
  clear y0 y1 y2 y3 HZ d0 d1 d2 d3
  have hv1 := hv.keep hb1
  by_cases c1 : c ≤ n - 8
  · have c1i : ¬ (n : Int) - 8 < (c : Int) := by omega
    obtain ⟨q2, e2⟩ := sliced_form (some ⟨g, off, none⟩) 8 (8 + c) cap
    have s2 := hv1.sub (i := 8) (j := 8 + c) (by omega) (by omega) (Nat.le_refl _) (by omega) e2.symm
    rw [Nat.add_sub_cancel_left] at s2 e2
    rw [← HIB.out] at s2
    have HLI : Hid ((insB l).length = c) := by show _ = _; rw [HIB.out, List.length_take, List.length_drop]; omega
    have hbI : Byt (insB l) := by rw [HIB.out]; exact (hb.drop 8).take c
    by_cases c2 : c ≤ 16376
    · go_upto_region 7 with (first
        | (refine slb_lh rfl rfl 8 (8 + c) rfl rfl rfl rfl (by omega) (by omega) (by omega) hv1 ?_; intro q3 s3; rw [Nat.add_sub_cancel_left, ← HIB.out] at s3)
        | (go_at_call 57; refine (rwrap_ok _ _ _ s3 hbI (by rw [HLI.out]; exact c2)).mono ?_; rintro e V2 ⟨v2, rfl, HO2, hb2⟩))
      obtain ⟨q4, e4⟩ := sliced_form (some ⟨g, off, none⟩) 0 (8 + c) cap
      have s4 := (hv1.keep hb2).sub (i := 0) (j := 8 + c) (by omega) (by omega) (Nat.le_refl _) (by omega) e4.symm
      rw [List.drop_zero, Nat.sub_zero] at s4
      have hvV := hv1.keep hb2
      have hbV2 := ab_trans hb1 hb2
      have HB1 : Hid (Byt (frm (insB l))) := frm_byt hbI
      have HB2 : Hid (Byt (l.take (8 + c))) := hb.take _
      cases hok : insOK l with
      | true =>
        have HFE : Hid (frm (insB l) = l.take (8 + c)) := (HIO.out c2 c1).2 hok
        refine wp_region_held_drew (S := fun w' => Below V2.heap.size V2 w') (by kernel_rfl) (ab_drew (Below.refl _ _)) (fun hHeld => ?_)
        refine takeH (i := 0) (some 45) rfl rfl (by kernel_rfl) (by kernel_rfl) (by kernel_rfl) (fun _ _ _ h => h) (by rfl) (fun w hSw => by (try dsimp only at hSw); go_simp; try rfl) hHeld ?_
        go_frame
        refine takeH (i := 1) (some 46) rfl rfl (by kernel_rfl) (by kernel_rfl) (by kernel_rfl) (fun _ _ _ h => h) (by rfl) (fun w hSw => by (try dsimp only at hSw); go_simp; try rfl) hHeld ?_
        go_frame
        refine takeH (i := 2) (some 47) rfl rfl (by kernel_rfl) (by kernel_rfl) (by kernel_rfl) (fun _ _ _ h => h) (by rfl) (fun w hSw => by (try dsimp only at hSw); go_simp; try rfl) hHeld ?_
        go_frame
        refine takeH (i := 3) (some 48) rfl rfl (by kernel_rfl) (by kernel_rfl) (by kernel_rfl) (fun _ _ _ h => h) (by rfl) (fun w hSw => by (try dsimp only at hSw); go_simp; try rfl) hHeld ?_
        go_frame
        refine takeH (i := 4) (some 49) rfl rfl (by kernel_rfl) (by kernel_rfl) (by kernel_rfl) (fun _ _ _ h => h) (by rfl) (fun w hSw => by (try dsimp only at hSw); exact cv_run (x := .tmp 48) rfl rfl (HO2.sl.keep hSw)) hHeld ?_
        go_frame
        refine takeH (i := 5) (some 50) rfl rfl (by kernel_rfl) (by kernel_rfl) (by kernel_rfl) (fun _ _ _ h => h) (by rfl) (fun w hSw => by (try dsimp only at hSw); go_simp; try rfl) hHeld ?_
        go_frame
        refine takeH (i := 6) (some 51) rfl rfl (by kernel_rfl) (by kernel_rfl) (by kernel_rfl) (fun _ _ _ h => h) (by rfl) (fun w hSw => by (try dsimp only at hSw); go_simp; try rfl) hHeld ?_
        go_frame
        refine takeH (i := 7) (some 52) rfl rfl (by kernel_rfl) (by kernel_rfl) (by kernel_rfl) (fun _ _ _ h => h) (by rfl) (fun w hSw => by (try dsimp only at hSw); go_simp; try rfl) hHeld ?_
        go_frame
        refine takeH (i := 8) (some 53) rfl rfl (by kernel_rfl) (by kernel_rfl) (by kernel_rfl) (fun _ _ _ h => h) (by rfl) (fun w hSw => by (try dsimp only at hSw); exact (slb_h_run (j := 8 + c) rfl rfl rfl (by first | rfl | omega | (rw [IntWalk.i64_left]; unfold wrap64; omega)) (by omega)).trans (by rw [e4])) hHeld ?_
        go_frame
        refine takeH (i := 9) (some 54) rfl rfl (by kernel_rfl) (by kernel_rfl) (by kernel_rfl) (fun _ _ _ h => h) (by rfl) (fun w hSw => by (try dsimp only at hSw); exact cv_run (x := .tmp 53) rfl rfl (s4.keep hSw)) hHeld ?_
        go_frame
        rw [HFE.out]
        refine takeH (i := 10) (some 55) rfl rfl (by kernel_rfl) (by kernel_rfl) (by kernel_rfl) (fun _ _ _ h => h) (by rfl) (fun w hSw => by (try dsimp only at hSw); go_simp; try rfl) hHeld ?_
        go_frame
        refine takeH (i := 11) (some 56) rfl rfl (by kernel_rfl) (by kernel_rfl) (by kernel_rfl) (fun _ _ _ h => h) (by rfl) (fun w hSw => by (try dsimp only at hSw); go_simp; try rfl) hHeld ?_
        go_frame
        refine wpAnyH_done (by kernel_rfl) ?_ _
        go_wp2_with (first
          | (refine bs_by rfl rfl [] (vs := #[]) (by simp) (bsb0 _) rfl (by decide) ?_; intro W3 hN3 hb3 z3)
          | (refine slb_lh rfl rfl 8 (8 + c) rfl rfl rfl rfl (by omega) (by omega) (by omega) (hvV.keep (ab_trans hHeld hb3)) ?_; intro q5 s5; have s6 : Sl W3 (.slice q5 (8 + c - 8) (cap - 8)) (insB l) := (by have h := s5; rw [Nat.add_sub_cancel_left] at h ⊢; rw [HIB.out]; exact h))
          | (at_builtin; (first | refine app_by V2.drew rfl rfl rfl hN3 rfl s6 HLI.out (by omega) hb3 ?_ | refine app_by V2.drew rfl rfl rfl hN3 rfl (by have h := s6; rw [Nat.add_sub_cancel_left] at h; exact h) HLI.out (by omega) hb3 ?_); intro v6 W6 hown6 hnil6 hb6 hgr6 hat6))
        go_ret2
        refine ⟨⟨fun _ => ⟨v6, ?_, ?_⟩, fun h => by rw [hok] at h; cases h⟩, ab_trans hbV2 (ab_trans hHeld hb6)⟩
        · rw [HLI.out]; rfl
        · have := ow_of hown6
          rw [List.nil_append] at this
          exact this.less (Nat.le_trans hbV2.size hHeld.size)
      | false =>
        have hne : strB (frm (insB l)) ≠ strB (l.take (8 + c)) := fun h => by
          have := (HIO.out c2 c1).1 (strB_inj HB1.out HB2.out h)
          rw [hok] at this
          cases this
        have hneb := strB_ne hne
        refine wp_region_held_drew (S := fun w' => Below V2.heap.size V2 w') (by kernel_rfl) (ab_drew (Below.refl _ _)) (fun hHeld => ?_)
        refine takeH (i := 0) (some 45) rfl rfl (by kernel_rfl) (by kernel_rfl) (by kernel_rfl) (fun _ _ _ h => h) (by rfl) (fun w hSw => by (try dsimp only at hSw); go_simp; try rfl) hHeld ?_
        go_frame
        refine takeH (i := 1) (some 46) rfl rfl (by kernel_rfl) (by kernel_rfl) (by kernel_rfl) (fun _ _ _ h => h) (by rfl) (fun w hSw => by (try dsimp only at hSw); go_simp; try rfl) hHeld ?_
        go_frame
        refine takeH (i := 2) (some 47) rfl rfl (by kernel_rfl) (by kernel_rfl) (by kernel_rfl) (fun _ _ _ h => h) (by rfl) (fun w hSw => by (try dsimp only at hSw); go_simp; try rfl) hHeld ?_
        go_frame
        refine takeH (i := 3) (some 48) rfl rfl (by kernel_rfl) (by kernel_rfl) (by kernel_rfl) (fun _ _ _ h => h) (by rfl) (fun w hSw => by (try dsimp only at hSw); go_simp; try rfl) hHeld ?_
        go_frame
        refine takeH (i := 4) (some 49) rfl rfl (by kernel_rfl) (by kernel_rfl) (by kernel_rfl) (fun _ _ _ h => h) (by rfl) (fun w hSw => by (try dsimp only at hSw); exact cv_run (x := .tmp 48) rfl rfl (HO2.sl.keep hSw)) hHeld ?_
        go_frame
        refine takeH (i := 5) (some 50) rfl rfl (by kernel_rfl) (by kernel_rfl) (by kernel_rfl) (fun _ _ _ h => h) (by rfl) (fun w hSw => by (try dsimp only at hSw); go_simp; try rfl) hHeld ?_
        go_frame
        refine takeH (i := 6) (some 51) rfl rfl (by kernel_rfl) (by kernel_rfl) (by kernel_rfl) (fun _ _ _ h => h) (by rfl) (fun w hSw => by (try dsimp only at hSw); go_simp; try rfl) hHeld ?_
        go_frame
        refine takeH (i := 7) (some 52) rfl rfl (by kernel_rfl) (by kernel_rfl) (by kernel_rfl) (fun _ _ _ h => h) (by rfl) (fun w hSw => by (try dsimp only at hSw); go_simp; try rfl) hHeld ?_
        go_frame
        refine takeH (i := 8) (some 53) rfl rfl (by kernel_rfl) (by kernel_rfl) (by kernel_rfl) (fun _ _ _ h => h) (by rfl) (fun w hSw => by (try dsimp only at hSw); exact (slb_h_run (j := 8 + c) rfl rfl rfl (by first | rfl | omega | (rw [IntWalk.i64_left]; unfold wrap64; omega)) (by omega)).trans (by rw [e4])) hHeld ?_
        go_frame
        refine takeH (i := 9) (some 54) rfl rfl (by kernel_rfl) (by kernel_rfl) (by kernel_rfl) (fun _ _ _ h => h) (by rfl) (fun w hSw => by (try dsimp only at hSw); exact cv_run (x := .tmp 53) rfl rfl (s4.keep hSw)) hHeld ?_
        go_frame
        refine takeH (i := 10) (some 55) rfl rfl (by kernel_rfl) (by kernel_rfl) (by kernel_rfl) (fun _ _ _ h => h) (by rfl) (fun w hSw => by (try dsimp only at hSw); go_simp; try rfl) hHeld ?_
        go_frame
        refine takeH (i := 11) (some 56) rfl rfl (by kernel_rfl) (by kernel_rfl) (by kernel_rfl) (fun _ _ _ h => h) (by rfl) (fun w hSw => by (try dsimp only at hSw); go_simp; try rfl) hHeld ?_
        go_frame
        refine wpAnyH_done (by kernel_rfl) ?_ _
        go_wp2_with fail
        go_ret2
        exact ⟨⟨fun h => (by rw [hok] at h; cases h), fun _ => rfl⟩, ab_trans hbV2 hHeld⟩
    · have hno : insOK l = false := by
        cases h : insOK l with
        | false => rfl
        | true => exact absurd (HOK.out.1 h).2.1 (by omega)
      go_upto_region 7 with (first
        | (refine slb_lh rfl rfl 8 (8 + c) rfl rfl rfl rfl (by omega) (by omega) (by omega) hv1 ?_; intro q3 s3; rw [Nat.add_sub_cancel_left, ← HIB.out] at s3)
        | (go_at_call 57; refine (rwrap_no _ _ _ s3 (by rw [HLI.out]; omega)).mono ?_; rintro e V2 ⟨rfl, hb2⟩))
      refine wp_region_below (by kernel_rfl) (by kernel_rfl) ?_
      have HZ := cls_some V2
      repeat (go_big_quiet_step (fail))
      refine wpQuiet_nil ?_
      rintro _ ⟨y, rfl⟩
      obtain ⟨V9, hb9⟩ := y
      dsimp only
      go_wp2_with fail
      go_ret2
      exact ⟨⟨fun h => (by rw [hno] at h; cases h), fun _ => rfl⟩, ab_trans hb1 (ab_trans hb2 hb9)⟩
  · have c1i : (n : Int) - 8 < (c : Int) := by omega
    have hno : insOK l = false := by
      cases h : insOK l with
      | false => rfl
      | true => exact absurd (HOK.out.1 h).2.2.1 (by omega)
    go_wp2_with fail
    go_ret2
    exact ⟨⟨fun h => (by rw [hno] at h; cases h), fun _ => rfl⟩, hb1⟩
theorem runwrap_any (v : Value) (l : List Nat) (w : World) (hv : Sl w v l) (hb : Byt l) (hl : l.length ≤ 1048576) :
    Calls Try.prog 52 #[v] w fun e w' => UP w' w.heap.size l e ∧ Below w.heap.size w w' := by
  by_cases h8 : 8 ≤ l.length
  · exact runwrap_long v l w hv hb hl h8
  · refine (runwrap_short v l w hv (by omega)).mono fun e w' ⟨h1, h2⟩ => ⟨⟨fun h => absurd ((insOK_iff l).1 h).1 h8, fun _ => h1⟩, h2⟩
set_option maxHeartbeats 1000000 in
theorem rsplit_any (v : Value) (l : List Nat) (w : World) (hv : Sl w v l) (hb : Byt l) (hl : l.length ≤ 1048576) :
    Calls Try.prog 38 #[v] w fun e w' => ∃ v' vs, e = .returned (.tuple #[v', .int .i64 ((spN (spt l) : Nat) : Int)]) ∧ Lis w' w.heap.size v' vs (spt l) ∧ Below w.heap.size w w' := by
  obtain ⟨q, cap, g, off, rfl, hc, hm, hp, hg, hr⟩ := hv.open
  clear hp hg hr
  generalize hn : l.length = n at *
  go_enter Try.func38, Try.ntmps38
  go_wp2_with fail
  go_loopw [4, 5] (fun x i wr => ∃ fs vs, i = .int .i64 ((spN fs : Nat) : Int) ∧ spN fs ≤ n ∧ spt l = fs ++ spt (l.drop (spN fs)) ∧ Lis wr w.heap.size x vs fs ∧ Below w.heap.size w wr) (fun _ i _ => n - numOf i)
  case atStart => exact ⟨[], [], rfl, by simp [spN], by simp [spN], Lis.nil w _, Below.refl _ _⟩
  case round =>
    obtain ⟨fs, vs, rfl, hat, HSP, HL, hbw⟩ := hrel
    have HSP' : Hid (spt l = fs ++ spt (l.drop (spN fs))) := HSP
    clear HSP
    have hvr := hv.keep hbw
    have hbd := hb.drop (spN fs)
    have hlen : (l.drop (spN fs)).length = n - spN fs := by rw [List.length_drop, hn]
    have hfl := spN_len fs
    cases hok : insOK (l.drop (spN fs)) with
    | false =>
      have HE : Hid (spt l = fs) := by show _ = _; rw [HSP'.out, spt_stop hok, List.append_nil]
      generalize hA : spN fs = A at *
      go_wp2_with (first
        | (refine slb_l rfl rfl A rfl rfl rfl hat hvr ?_; intro q2 s2)
        | (go_at_call 52; refine (runwrap_any _ _ _ s2 hbd (by rw [hlen]; omega)).mono ?_; rintro e W2 ⟨hup, hb2⟩; obtain rfl := hup.no hok; clear hup))
      go_ret2
      rw [HE.out, hA]
      exact ⟨_, vs, rfl, HL.keep hb2, ab_trans hbw hb2⟩
    | true =>
      have HE := spt_at l fs HSP'.out hok
      have hile := insB_le hok
      have HE' : Hid (spt l = (fs ++ [insB (l.drop (spN fs))]) ++ spt (l.drop (spN (fs ++ [insB (l.drop (spN fs))])))) := HE
      clear HE
      have HN : Hid (spN (fs ++ [insB (l.drop (spN fs))]) = spN fs + (8 + (insB (l.drop (spN fs))).length)) := spN_snoc _ _
      rw [hlen] at hile
      generalize hA : spN fs = A at *
      have HU : Hid (∀ q2 W, Sl W (.slice q2 (n - A) (cap - A)) (l.drop A) → Calls Try.prog 52 #[.slice q2 (n - A) (cap - A)] W fun e w' => ∃ v', e = .returned (.tuple #[v', .int .i64 ((8 + (insB (l.drop A)).length : Nat) : Int)]) ∧ Ow w' W.heap.size v' (insB (l.drop A)) ∧ Below W.heap.size W w') := fun q2 W h => (runwrap_any _ _ W h hbd (by rw [hlen]; omega)).mono fun e w' ⟨h1, h2⟩ => by
        obtain ⟨v', h3, h4⟩ := h1.ok hok
        exact ⟨v', h3, h4, h2⟩
      generalize hF : insB (l.drop A) = F at *
      clear hok hbd hlen
      generalize hFl : F.length = m at *
      have HFm : Hid (F.length = m) := hFl
      clear hFl
      have hm0 : ((8 + (m : Int)) == 0) = false := by simp; omega
      go_wp2_with (first
        | (refine slb_l rfl rfl A rfl rfl rfl hat hvr ?_; intro q2 s2)
        | (go_at_call 52; refine (HU.out _ _ s2).mono ?_; rintro e W2 ⟨v3, rfl, HO3, hb2⟩; obtain ⟨q5, cap5, e5⟩ := HO3.form; rw [HFm.out] at e5; subst e5)
        | (refine bs_ls rfl rfl [_] [F] (by simp only [List.map_toArray, List.map_cons, List.map_nil]; rfl) (bsl1 _ _ _ _) rfl (by decide) rfl (each1 HO3.sl) ?_; intro W4 hls4 hb4 hbk4)
        | (at_builtin; refine app1 w rfl rfl rfl (own_keep HL.row (ab_trans hb2 hb4)) rfl ⟨_, _, _, rfl⟩ (hbk4.at (i := 0) rfl) (by omega) (ab_trans hbw (ab_trans hb2 hb4)) ?_; intro v6 W6 hown6 hnn6 hb6 hgr6 hat6))
      refine ⟨⟨fs ++ [F], vs ++ [_], ?_, ?_, HE'.out, HL.snoc (ab_trans hb2 hb4) (HO3.keep hb4) hbw.size hown6 hgr6 hat6, hb6⟩, ?_⟩
      · rw [HN.out]; congr 1
      · rw [HN.out]; omega
      · simp only [numOf]; omega
end Go.Proofs.Ytalbiggmmmkclaa
