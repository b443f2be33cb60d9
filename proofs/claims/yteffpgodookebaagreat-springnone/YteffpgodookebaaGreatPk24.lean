/-
  estuarynum.Copy and estuarynum.Kept.
  estuarynum.Over.
  The document's numbers: estuaryref04.Number, Put, Take, Nums.
  Lists of bytes that the call itself makes: an empty one, one of one slice, append of lists.
  frame.Unwrap.
-/
import Derived.Test.YteffpgodookebaaGreatPk22
import Derived.Test.YteffpgodookebaaGreatPk23
import Derived.Lib.Strings
namespace Go.Proofs.YteffpgodookebaaGreat
set_option maxRecDepth 100000
open Go.RowKit
set_option linter.unusedVariables false

/-- A copy: its bytes, and two marks behind them. -/
def Cp (W : World) (base : Nat) (v : Value) (l : List Nat) : Prop := ∃ g cap, v = .slice (some ⟨g, 0, none⟩) l.length cap ∧ W.ownsRow base 5 1 (.slice (some ⟨g, 0, none⟩) (l.length + 2) cap) (l.length + 2) (bys (l ++ [165, 90]))
theorem Cp.keep {W W' : World} {base : Nat} {v : Value} {l : List Nat} (h : Cp W base v l) (hb : Below W.heap.size W W') : Cp W' base v l := by
  obtain ⟨g, cap, rfl, h1⟩ := h
  exact ⟨g, cap, rfl, own_keep h1 hb⟩
theorem own_pre {W : World} {base g n m cap : Nat} {xs : List Value} (h : W.ownsRow base 5 1 (.slice (some ⟨g, 0, none⟩) n cap) n xs) (hm : m ≤ n) : W.ownsRow base 5 1 (.slice (some ⟨g, 0, none⟩) m cap) m (xs.take m) := by
  obtain ⟨h1, h2⟩ := h
  refine ⟨by rw [List.length_take]; omega, .inr ?_⟩
  rcases h2 with ⟨h2, _⟩ | ⟨g', cap', cur, e, hb, hg, hnc, hcm, hcs, ht⟩
  · cases h2
  · cases e
    refine ⟨g, cap, cur, rfl, hb, hg, by omega, hcm, hcs, ?_⟩
    rw [← ht, List.take_take]
    congr 1
    omega
theorem Cp.ow {W : World} {base : Nat} {v : Value} {l : List Nat} (h : Cp W base v l) : Ow W base v l := by
  obtain ⟨g, cap, rfl, h1⟩ := h
  have := own_pre h1 (Nat.le_add_right l.length 2)
  have e : (bys (l ++ [165, 90])).take l.length = bys l := by
    rw [← bys_append, ← bys_len l, List.take_left]
  rw [e] at this
  exact this
end Go.Proofs.YteffpgodookebaaGreat
namespace Go.Proofs.YteffpgodookebaaGreat
set_option maxRecDepth 100000
open Go.RowKit
set_option linter.unusedVariables false

def u8s (zs : List Int) : List Value := zs.map fun z => Value.int .u8 z
theorem u8s_set (l : List Int) (j : Nat) (x : Int) : (u8s l).set j (.int .u8 x) = u8s (l.set j x) := by simp [u8s, List.map_set]
theorem bys_u8s (l : List Nat) : bys l = u8s (l.map fun x => ((x : Nat) : Int)) := by simp [bys, u8s]
end Go.Proofs.YteffpgodookebaaGreat
namespace Go.Proofs.YteffpgodookebaaGreat
set_option maxRecDepth 100000
open Go.RowKit
set_option linter.unusedVariables false

theorem leB_cons (j u : Nat) (hu : u < 256 ^ j) (h0 : u ≠ 0) : ∃ k, j = k + 1 ∧ leB j u = u % 256 :: leB k (u / 256) ∧ u / 256 < 256 ^ k := by
  cases j with
  | zero => exact absurd (by simpa using hu) h0
  | succ k =>
    refine ⟨k, rfl, ?_, by rw [Nat.pow_succ] at hu; omega⟩
    rw [leB, if_neg h0]
theorem leB_zero (j : Nat) : leB j 0 = [] := by cases j <;> simp [leB]
/-- How a number is written: what is done, and what is left. -/
structure Wr (u : Nat) (l : List Nat) (rem : Nat) : Prop where
  len : l.length ≤ 8
  lt : rem < 256 ^ (8 - l.length)
  all : l ++ leB (8 - l.length) rem = leB 8 u
theorem Wr.start {u : Nat} (hu : u < 18446744073709551616) : Wr u [] u := ⟨by simp, by simpa using hu, by simp⟩
theorem Wr.step {u : Nat} {l : List Nat} {rem : Nat} (h : Wr u l rem) (h0 : rem ≠ 0) : Wr u (l ++ [rem % 256]) (rem / 256) := by
  obtain ⟨k, e, e2, e3⟩ := leB_cons (8 - l.length) rem h.lt h0
  have hl : (l ++ [rem % 256]).length = l.length + 1 := by simp
  have hk : 8 - (l ++ [rem % 256]).length = k := by rw [hl]; omega
  refine ⟨by rw [hl]; omega, by rw [hk]; exact e3, ?_⟩
  rw [hk, ← h.all, e2, List.append_assoc]
  rfl
theorem Wr.end {u : Nat} {l : List Nat} (h : Wr u l 0) : l = leB 8 u := by
  have := h.all
  rwa [leB_zero, List.append_nil] at this
set_option maxHeartbeats 1000000 in
theorem number_ref (n : Int) (w : World) (h0 : -9223372036854775808 ≤ n) (h1 : n ≤ 9223372036854775807) :
    Calls Tryz.prog 141 #[.int .i64 n] w fun e w' => ∃ v', e = .returned v' ∧ Ow w' w.heap.size v' (numB n) ∧ Below w.heap.size w w' := by
  have hz := zig_lt n h0 h1
  by_cases hneg : n < 0
  · go_enter Tryz.func141, Tryz.ntmps141
    have HZ : -(n + 1) * 2 + 1 = ((zig n : Nat) : Int) := by unfold zig; rw [if_pos hneg]; omega
    go_wp2_with fail
    go_loopw [3, 4] (fun s x wr => ∃ (rem : Nat) (l : List Nat), s = .int .u64 ((rem : Nat) : Int) ∧ rem < 18446744073709551616 ∧ Ow wr w.heap.size x l ∧ Wr (zig n) l rem ∧ Below w.heap.size w wr) (fun s _ _ => numOf s)
    case atStart => exact ⟨zig n, [], rfl, hz, World.ownsRow_nil w _ _ _, Wr.start hz, Below.refl _ _⟩
    case round =>
      obtain ⟨rem, l, rfl, hrem, HO, HW, hbw⟩ := hrel
      have hl8 := HW.len
      by_cases c : rem = 0
      · subst c
        have HE : Hid (numB n = l.length :: l) := by show _ = _; rw [numB, ← HW.end]
        obtain ⟨q2, cap2, e2⟩ := HO.form
        subst e2
        generalize hll : l.length = k at *
        have hN9 : Hid (l.length ≤ 8) := by show _ ≤ _; omega
        go_wp2_with (first
          | (refine bs_by rfl rfl [k] (vs := #[(0, .int .u8 ((k : Nat) : Int))]) (by simp only [List.map_toArray, List.map_cons, List.map_nil]; rfl) (bsb1 _ _) rfl (by decide) ?_; intro W3 hN b3 z3)
          | (at_builtin; refine app_by _ rfl rfl rfl hN rfl (HO.keep b3).sl hll (by omega) b3 ?_; intro v4 W4 hown4 hnil4 hb4 hgr4 hat4))
        go_ret
        rw [HE.out]
        exact ⟨_, rfl, (ow_of hown4).less hbw.size, ab_trans hbw hb4⟩
      · have hpos : 0 < rem := by omega
        have HW2 : Hid (Wr (zig n) (l ++ [rem % 256]) (rem / 256)) := HW.step c
        clear HW
        have e1 : ((rem : Nat) : Int).tmod 256 = ((rem % 256 : Nat) : Int) := by rw [Int.tmod_eq_emod_of_nonneg (by omega)]; omega
        have e2 : ((rem : Nat) : Int).tdiv 256 = ((rem / 256 : Nat) : Int) := by rw [Int.tdiv_eq_ediv_of_nonneg (by omega)]; omega
        have HL : Hid (l.length + 1 ≤ 1000000) := by show _ ≤ _; omega
        go_wp2_with (first
          | (refine bs_by rfl rfl [rem % 256] (vs := #[(0, .int .u8 ((rem % 256 : Nat) : Int))]) (by simp only [List.map_toArray, List.map_cons, List.map_nil]; rfl) (bsb1 _ _) rfl (by decide) ?_; intro W3 hN b3 z3)
          | (at_builtin; refine app_by _ rfl rfl rfl (HO.keep b3) rfl (own_sl hN).2 rfl HL.out (ab_trans hbw b3) ?_; intro v4 W4 hown4 hnil4 hb4 hgr4 hat4))
        refine ⟨⟨rem / 256, l ++ [rem % 256], by rw [Int.natCast_ediv]; rfl, by omega, ow_of hown4, HW2.out, hb4⟩, by simp only [numOf]; omega⟩
  · have HZ : n * 2 = ((zig n : Nat) : Int) := by unfold zig; rw [if_neg hneg]; omega
    go_enter Tryz.func141, Tryz.ntmps141
    go_wp2_with fail
    go_loopw [3, 4] (fun s x wr => ∃ (rem : Nat) (l : List Nat), s = .int .u64 ((rem : Nat) : Int) ∧ rem < 18446744073709551616 ∧ Ow wr w.heap.size x l ∧ Wr (zig n) l rem ∧ Below w.heap.size w wr) (fun s _ _ => numOf s)
    case atStart => exact ⟨zig n, [], rfl, hz, World.ownsRow_nil w _ _ _, Wr.start hz, Below.refl _ _⟩
    case round =>
      obtain ⟨rem, l, rfl, hrem, HO, HW, hbw⟩ := hrel
      have hl8 := HW.len
      by_cases c : rem = 0
      · subst c
        have HE : Hid (numB n = l.length :: l) := by show _ = _; rw [numB, ← HW.end]
        obtain ⟨q2, cap2, e2⟩ := HO.form
        subst e2
        generalize hll : l.length = k at *
        have hN9 : Hid (l.length ≤ 8) := by show _ ≤ _; omega
        go_wp2_with (first
          | (refine bs_by rfl rfl [k] (vs := #[(0, .int .u8 ((k : Nat) : Int))]) (by simp only [List.map_toArray, List.map_cons, List.map_nil]; rfl) (bsb1 _ _) rfl (by decide) ?_; intro W3 hN b3 z3)
          | (at_builtin; refine app_by _ rfl rfl rfl hN rfl (HO.keep b3).sl hll (by omega) b3 ?_; intro v4 W4 hown4 hnil4 hb4 hgr4 hat4))
        go_ret
        rw [HE.out]
        exact ⟨_, rfl, (ow_of hown4).less hbw.size, ab_trans hbw hb4⟩
      · have hpos : 0 < rem := by omega
        have HW2 : Hid (Wr (zig n) (l ++ [rem % 256]) (rem / 256)) := HW.step c
        clear HW
        have e1 : ((rem : Nat) : Int).tmod 256 = ((rem % 256 : Nat) : Int) := by rw [Int.tmod_eq_emod_of_nonneg (by omega)]; omega
        have e2 : ((rem : Nat) : Int).tdiv 256 = ((rem / 256 : Nat) : Int) := by rw [Int.tdiv_eq_ediv_of_nonneg (by omega)]; omega
        have HL : Hid (l.length + 1 ≤ 1000000) := by show _ ≤ _; omega
        go_wp2_with (first
          | (refine bs_by rfl rfl [rem % 256] (vs := #[(0, .int .u8 ((rem % 256 : Nat) : Int))]) (by simp only [List.map_toArray, List.map_cons, List.map_nil]; rfl) (bsb1 _ _) rfl (by decide) ?_; intro W3 hN b3 z3)
          | (at_builtin; refine app_by _ rfl rfl rfl (HO.keep b3) rfl (own_sl hN).2 rfl HL.out (ab_trans hbw b3) ?_; intro v4 W4 hown4 hnil4 hb4 hgr4 hat4))
        refine ⟨⟨rem / 256, l ++ [rem % 256], by rw [Int.natCast_ediv]; rfl, by omega, ow_of hown4, HW2.out, hb4⟩, by simp only [numOf]; omega⟩

set_option maxHeartbeats 1000000 in
theorem put_ref (v : Value) (l : List Nat) (v2 : Value) (ns : List Int) (w : World) (hv : Sl w v l) (hl : l.length ≤ 100000) (hi : Is w v2 ns) (hn4 : ns.length ≤ 4000) (h64 : In64 ns) :
    Calls Tryz.prog 113 #[v, v2] w fun e w' => ∃ v', e = .returned v' ∧ Ow w' w.heap.size v' (l ++ numsB ns) ∧ Below w.heap.size w w' := by
  obtain ⟨q, cap, g, off, rfl, hc, hm, hp, hg, hr⟩ := hi
  generalize hn : ns.length = n at *
  generalize hnl : l.length = nl at *
  go_enter Tryz.func113, Tryz.ntmps113
  go_upto_region 2 with (first
    | (refine bs_by rfl rfl [] (vs := #[]) (by simp) (bsb0 _) rfl (by decide) ?_; intro V1 hN1 hb1 z1)
    | (at_builtin; refine app_by w rfl rfl rfl hN1 rfl (hv.keep hb1) hnl (by omega) hb1 ?_; intro v2 V2 hown2 hnil2 hb2 hgr2 hat2))
  have HO2 := ow_of hown2
  rw [List.nil_append] at HO2
  clear hown2 hnil2 hgr2 hat2 hN1 hb1 z1
  go_wp2_with fail
  go_loopw [5, 6] (fun x i wr => ∃ k : Nat, k ≤ n ∧ i = .int .i64 (k : Int) ∧ Ow wr w.heap.size x (l ++ numsB (ns.take k)) ∧ Below w.heap.size w wr) (fun _ i _ => n - (intOf i).toNat)
  case atStart => exact ⟨0, by omega, rfl, by simpa [numsB] using HO2, hb2⟩
  case round =>
    clear HO2 hb2 hv
    obtain ⟨k, hk, rfl, hown, hb⟩ := hrel
    by_cases c : k = n
    · subst c
      rw [List.take_of_length_le (by omega)] at hown
      clear hr hp hg h64
      go_wp2_with fail
      go_ret
      exact ⟨_, rfl, hown, hb⟩
    · obtain ⟨x, hx⟩ : ∃ x, ns[k]? = some x := ⟨ns[k], List.getElem?_eq_getElem (by omega)⟩
      obtain rfl := hp (by omega)
      have hx64 := h64 x (List.mem_of_getElem? hx)
      have d := (hb.cell (p := ⟨g, off + k, none⟩) (hg (by omega))).trans (hr k x hx)
      have hki : (k : Int) < (n : Int) := by omega
      have hkn : k < n := by omega
      have HT : Hid (numsB (ns.take (k + 1)) = numsB (ns.take k) ++ numB x) := numsB_take ns k x hx
      have HL : Hid ((l ++ numsB (ns.take k)).length + (numB x).length ≤ 1000000) := by
        have := numsB_len (ns.take k)
        have h9 := numB_len x
        rw [List.length_take] at this
        show _ ≤ _
        rw [List.length_append]
        omega
      clear hr hp hg h64 hx
      go_wp2_with (first
        | (go_at_call 141; refine (number_ref _ _ hx64.1 hx64.2).mono ?_; rintro e V3 ⟨v3, rfl, HO3, hb3⟩)
        | (at_builtin; refine app_by w rfl rfl rfl (hown.keep hb3) rfl HO3.sl rfl HL.out (ab_trans hb hb3) ?_; intro v4 V4 hown4 hnil4 hb4 hgr4 hat4))
      refine ⟨⟨k + 1, by omega, rfl, ?_, hb4⟩, by simp only [intOf]; omega⟩
      rw [HT.out, ← List.append_assoc]
      exact ow_of hown4

theorem val_drop (l : List Nat) (i x : Nat) (h : l[i]? = some x) : val (l.drop i) = x + 256 * val (l.drop (i + 1)) := by
  obtain ⟨hi, e⟩ := List.getElem?_eq_some_iff.1 h
  rw [List.drop_eq_getElem_cons hi, val, e]
theorem val_drop_lt (l : List Nat) (hb : Byt l) (h8 : l.length ≤ 8) (i : Nat) : val (l.drop i) < 18446744073709551616 := by
  have h := val_lt (l.drop i) (hb.drop i)
  have hl : (l.drop i).length ≤ 8 := by rw [List.length_drop]; omega
  have := Nat.pow_le_pow_right (n := 256) (by decide) hl
  omega
theorem unz_even (u : Nat) (h : u % 2 = 0) : unz u = ((u / 2 : Nat) : Int) := by unfold unz; rw [if_neg (by omega)]
theorem unz_odd (u : Nat) (h : u % 2 = 1) : unz u = -((u / 2 : Nat) : Int) - 1 := by unfold unz; rw [if_pos h]
set_option maxHeartbeats 1000000 in
theorem rtake_short (v : Value) (l : List Nat) (w : World) (hv : Sl w v l) (hb : Byt l) (hl : l.length ≤ 100000) (hno : ¬ (0 < l.length ∧ l.getD 0 0 ≤ 8 ∧ l.getD 0 0 < l.length)) :
    Calls Tryz.prog 129 #[v] w fun e w' => e = .returned (.tuple #[.int .i64 0, .int .i64 0]) ∧ Below w.heap.size w w' := by
  obtain ⟨q, cap, g, off, rfl, hc, hm, hp, hg, hr⟩ := hv.open
  by_cases h0 : 0 < l.length
  · obtain rfl := hp h0
    have d0 := hr 0 _ (getD_at h0)
    have hx0 := hb.getD 0
    generalize hn : l.length = n at *
    generalize hcc : l.getD 0 0 = c at *
    have e0 : ((n : Int) == 0) = false := by simp; omega
    rw [Nat.add_zero] at d0
    clear hr hp hg hb hv hcc
    by_cases h8 : c ≤ 8
    · have hcn : ¬ c < n := fun h => hno ⟨h0, h8, h⟩
      have hcn2 : (n : Int) < 1 + (c : Int) := by omega
      go_enter Tryz.func129, Tryz.ntmps129
      go_wp2_with fail
      go_ret2
      exact ⟨rfl, Below.refl _ _⟩
    · go_enter Tryz.func129, Tryz.ntmps129
      go_wp2_with fail
      go_ret2
      exact ⟨rfl, Below.refl _ _⟩
  · have e : l.length = 0 := by omega
    rw [e] at *
    clear hr hp hg hb h0 hv hno
    go_enter Tryz.func129, Tryz.ntmps129
    go_wp2_with fail
    go_ret2
    exact ⟨rfl, Below.refl _ _⟩
set_option maxHeartbeats 1000000 in
set_option maxRecDepth 100000 in
theorem rtake_long (v : Value) (l : List Nat) (w : World) (hv : Sl w v l) (hb : Byt l) (hl : l.length ≤ 100000) (h0 : 0 < l.length) (h8 : l.getD 0 0 ≤ 8) (hcn : l.getD 0 0 < l.length) :
    Calls Tryz.prog 129 #[v] w fun e w' => e = .returned (.tuple #[.int .i64 (if nOK l = true then nV l else 0), .int .i64 ((if nOK l = true then nS l else 0 : Nat) : Int)]) ∧ Below w.heap.size w w' := by
  have HNO : Hid (numB (nV l) = l.take (nS l) ↔ nOK l = true) := num_of hb h0 h8 hcn
  have HnB := (hb.drop 1).take (l.getD 0 0)
  have HNL : Hid ((nL l).length = l.getD 0 0) := nL_len hcn
  have HAt : Hid (∀ i, i < l.getD 0 0 → (nL l)[i]? = l[i + 1]?) := fun i hi => by
    show ((l.drop 1).take (l.getD 0 0))[i]? = _
    rw [List.getElem?_take_of_lt hi, List.getElem?_drop, Nat.add_comm]
  have HLt : Hid (∀ i, val ((nL l).drop i) < 18446744073709551616) := fun i => val_drop_lt (nL l) HnB (by rw [HNL.out]; exact h8) i
  have HVn : Hid (nV l = unz (val (nL l))) := rfl
  have HSn : Hid (nS l = 1 + l.getD 0 0) := rfl
  have hin := unz_in _ (HLt.out 0)
  rw [List.drop_zero] at hin
  obtain ⟨q, cap, g, off, rfl, hc, hm, hp, hg, hr⟩ := hv.open
  obtain rfl := hp h0
  have d0 := hr 0 _ (getD_at h0)
  have hx0 := hb.getD 0
  have hg0 := hg h0
  generalize hn : l.length = n at *
  generalize hcc : l.getD 0 0 = c at *
  have e0 : ((n : Int) == 0) = false := by simp; omega
  have hcn2 : ¬ (n : Int) < 1 + (c : Int) := by omega
  rw [Nat.add_zero] at d0
  have HR : Hid (BRow w g off l) := hr
  clear hr hp hg HnB
  go_enter Tryz.func129, Tryz.ntmps129
  go_wp2_with fail
  go_loopw [5, 6] (fun u i wr => ∃ k : Nat, k ≤ c ∧ i = .int .i64 (k : Int) ∧ u = .int .u64 ((val ((nL l).drop k) : Nat) : Int) ∧ wr = w) (fun _ i _ => (intOf i).toNat)
  case atStart =>
    refine ⟨c, by omega, ?_, ?_, rfl⟩
    · congr 1; omega
    · rw [List.drop_of_length_le (by rw [HNL.out]; omega)]; rfl
  case round =>
    obtain ⟨k, hk, rfl, rfl, rfl⟩ := hrel
    by_cases c2 : k = 0
    · subst c2
      have hU := HLt.out 0
      rw [List.drop_zero] at hU ⊢
      obtain ⟨q3, e3⟩ := sliced_form (some ⟨g, off, none⟩) 0 (1 + c) cap
      have s3 := hv.sub (Nat.zero_le (1 + c)) (by omega) (Nat.le_refl _) (by omega) e3.symm
      rw [List.drop_zero, Nat.sub_zero] at s3
      have HTL : Hid (l.take (nS l) = l.take (1 + c)) := by show _ = _; rw [HSn.out]
      rw [← HVn.out] at hin
      generalize hUU : val (nL l) = U at *
      have HB1 : Hid (Byt (numB (nV l))) := numB_byt _
      have HB2 : Hid (Byt (l.take (1 + c))) := hb.take _
      generalize hVV : nV l = x at *
      clear HLt HAt HNL hb HR d0
      by_cases hpar : U % 2 = 0
      · have hval : (U : Int) / 2 = x := by rw [HVn.out, unz_even U hpar]; omega
        have hp1 : ((U : Int) % 2 == 1) = false := by simp; omega
        have hp2 : ((U : Int).tmod 2 == 1) = false := by rw [Int.tmod_eq_emod_of_nonneg (by omega)]; exact hp1
        by_cases hok : nOK l = true
        · have HNT : Hid (numB x = l.take (1 + c)) := by show _ = _; rw [← HTL.out]; exact HNO.out.2 hok
          clear HNO HVn
          go_upto_region 12 with fail
          refine wp_region_held_drew (S := fun w' => Below wr.heap.size wr w') (by kernel_rfl) (ab_drew (Below.refl _ _)) (fun hHeld => ?_)
          refine takeH (i := 0) (some 55) rfl rfl (by kernel_rfl) (by kernel_rfl) (by kernel_rfl) (fun _ _ _ h => h) (by rfl) (fun w hSw => by (try dsimp only at hSw); go_simp; try rfl) hHeld ?_
          go_frame
          refine takeH (i := 3) (some 58) rfl rfl (by kernel_rfl) (by kernel_rfl) (by kernel_rfl) (fun _ _ _ h => h) (by rfl) (fun w hSw => by (try dsimp only at hSw); go_simp; try rfl) hHeld ?_
          go_frame
          refine takeH (i := 4) (some 59) rfl rfl (by kernel_rfl) (by kernel_rfl) (by kernel_rfl) (fun _ _ _ h => h) (by rfl) (fun w hSw => by (try dsimp only at hSw); go_simp; try rfl) hHeld ?_
          go_frame
          refine takeH (i := 5) (some 60) rfl rfl (by kernel_rfl) (by kernel_rfl) (by kernel_rfl) (fun _ _ _ h => h) (by rfl) (fun w hSw => by (try dsimp only at hSw); exact (slb_h_run (j := 1 + c) rfl rfl rfl (by omega) (by omega)).trans (by rw [e3])) hHeld ?_
          go_frame
          refine takeH (i := 6) (some 61) rfl rfl (by kernel_rfl) (by kernel_rfl) (by kernel_rfl) (fun _ _ _ h => h) (by rfl) (fun w hSw => by (try dsimp only at hSw); exact cv_run (x := .tmp 60) rfl rfl (s3.keep hSw)) hHeld ?_
          go_frame
          refine wpAnyH_ready (rs := [1]) (by kernel_rfl) (by simp) (AllReadyH.cons rfl (fun K hK => ?_) AllReadyH.nil)
          go_simp
          refine (number_ref _ _ hin.1 hin.2).mono ?_
          rintro e V3 ⟨v3, rfl, HO3, hb3⟩
          show K _ _
          have hHeld3 := ab_trans hHeld hb3
          refine hK.out _ _ hHeld3 (fun hHeld => ?_)
          clear hK K
          refine wpAnyH_ready (rs := [2]) (by kernel_rfl) (by simp) (AllReadyH.cons rfl (fun K hK => ?_) AllReadyH.nil)
          rw [if_pos (by rfl)]
          refine valWf (some 57) rfl _ (cv_run (x := .tmp 56) rfl rfl HO3.sl) ?_
          refine hK.out _ _ hHeld (fun hHeld => ?_)
          clear hK K
          go_frame
          rw [HNT.out]
          refine takeH (i := 7) (some 62) rfl rfl (by kernel_rfl) (by kernel_rfl) (by kernel_rfl) (fun _ _ _ h => h) (by rfl) (fun w hSw => by (try dsimp only at hSw); go_simp; try rfl) hHeld ?_
          go_frame
          refine wpAnyH_done (by kernel_rfl) ?_ _
          go_wp2_with fail
          go_ret2
          refine ⟨?_, hHeld⟩
          rw [HSn.out]
          rfl
        · have hne : strB (numB x) ≠ strB (l.take (1 + c)) := fun h => hok (HNO.out.1 (by rw [HTL.out]; exact strB_inj HB1.out HB2.out h))
          have hneb := strB_ne hne
          clear HNO HVn
          go_upto_region 12 with fail
          refine wp_region_held_drew (S := fun w' => Below wr.heap.size wr w') (by kernel_rfl) (ab_drew (Below.refl _ _)) (fun hHeld => ?_)
          refine takeH (i := 0) (some 55) rfl rfl (by kernel_rfl) (by kernel_rfl) (by kernel_rfl) (fun _ _ _ h => h) (by rfl) (fun w hSw => by (try dsimp only at hSw); go_simp; try rfl) hHeld ?_
          go_frame
          refine takeH (i := 3) (some 58) rfl rfl (by kernel_rfl) (by kernel_rfl) (by kernel_rfl) (fun _ _ _ h => h) (by rfl) (fun w hSw => by (try dsimp only at hSw); go_simp; try rfl) hHeld ?_
          go_frame
          refine takeH (i := 4) (some 59) rfl rfl (by kernel_rfl) (by kernel_rfl) (by kernel_rfl) (fun _ _ _ h => h) (by rfl) (fun w hSw => by (try dsimp only at hSw); go_simp; try rfl) hHeld ?_
          go_frame
          refine takeH (i := 5) (some 60) rfl rfl (by kernel_rfl) (by kernel_rfl) (by kernel_rfl) (fun _ _ _ h => h) (by rfl) (fun w hSw => by (try dsimp only at hSw); exact (slb_h_run (j := 1 + c) rfl rfl rfl (by omega) (by omega)).trans (by rw [e3])) hHeld ?_
          go_frame
          refine takeH (i := 6) (some 61) rfl rfl (by kernel_rfl) (by kernel_rfl) (by kernel_rfl) (fun _ _ _ h => h) (by rfl) (fun w hSw => by (try dsimp only at hSw); exact cv_run (x := .tmp 60) rfl rfl (s3.keep hSw)) hHeld ?_
          go_frame
          refine wpAnyH_ready (rs := [1]) (by kernel_rfl) (by simp) (AllReadyH.cons rfl (fun K hK => ?_) AllReadyH.nil)
          go_simp
          refine (number_ref _ _ hin.1 hin.2).mono ?_
          rintro e V3 ⟨v3, rfl, HO3, hb3⟩
          show K _ _
          have hHeld3 := ab_trans hHeld hb3
          refine hK.out _ _ hHeld3 (fun hHeld => ?_)
          clear hK K
          refine wpAnyH_ready (rs := [2]) (by kernel_rfl) (by simp) (AllReadyH.cons rfl (fun K hK => ?_) AllReadyH.nil)
          rw [if_pos (by rfl)]
          refine valWf (some 57) rfl _ (cv_run (x := .tmp 56) rfl rfl HO3.sl) ?_
          refine hK.out _ _ hHeld (fun hHeld => ?_)
          clear hK K
          go_frame
          refine takeH (i := 7) (some 62) rfl rfl (by kernel_rfl) (by kernel_rfl) (by kernel_rfl) (fun _ _ _ h => h) (by rfl) (fun w hSw => by (try dsimp only at hSw); go_simp; try rfl) hHeld ?_
          go_frame
          refine wpAnyH_done (by kernel_rfl) ?_ _
          go_wp2_with fail
          go_ret2
          exact ⟨rfl, hHeld⟩
      · have hval : -((U : Int) / 2) - 1 = x := by rw [HVn.out, unz_odd U (by omega)]; omega
        have hp1 : ((U : Int) % 2 == 1) = true := by simp; omega
        have hp2 : ((U : Int).tmod 2 == 1) = true := by rw [Int.tmod_eq_emod_of_nonneg (by omega)]; exact hp1
        by_cases hok : nOK l = true
        · have HNT : Hid (numB x = l.take (1 + c)) := by show _ = _; rw [← HTL.out]; exact HNO.out.2 hok
          clear HNO HVn
          go_upto_region 12 with fail
          refine wp_region_held_drew (S := fun w' => Below wr.heap.size wr w') (by kernel_rfl) (ab_drew (Below.refl _ _)) (fun hHeld => ?_)
          refine takeH (i := 0) (some 55) rfl rfl (by kernel_rfl) (by kernel_rfl) (by kernel_rfl) (fun _ _ _ h => h) (by rfl) (fun w hSw => by (try dsimp only at hSw); go_simp; try rfl) hHeld ?_
          go_frame
          refine takeH (i := 3) (some 58) rfl rfl (by kernel_rfl) (by kernel_rfl) (by kernel_rfl) (fun _ _ _ h => h) (by rfl) (fun w hSw => by (try dsimp only at hSw); go_simp; try rfl) hHeld ?_
          go_frame
          refine takeH (i := 4) (some 59) rfl rfl (by kernel_rfl) (by kernel_rfl) (by kernel_rfl) (fun _ _ _ h => h) (by rfl) (fun w hSw => by (try dsimp only at hSw); go_simp; try rfl) hHeld ?_
          go_frame
          refine takeH (i := 5) (some 60) rfl rfl (by kernel_rfl) (by kernel_rfl) (by kernel_rfl) (fun _ _ _ h => h) (by rfl) (fun w hSw => by (try dsimp only at hSw); exact (slb_h_run (j := 1 + c) rfl rfl rfl (by omega) (by omega)).trans (by rw [e3])) hHeld ?_
          go_frame
          refine takeH (i := 6) (some 61) rfl rfl (by kernel_rfl) (by kernel_rfl) (by kernel_rfl) (fun _ _ _ h => h) (by rfl) (fun w hSw => by (try dsimp only at hSw); exact cv_run (x := .tmp 60) rfl rfl (s3.keep hSw)) hHeld ?_
          go_frame
          refine wpAnyH_ready (rs := [1]) (by kernel_rfl) (by simp) (AllReadyH.cons rfl (fun K hK => ?_) AllReadyH.nil)
          go_simp
          refine (number_ref _ _ hin.1 hin.2).mono ?_
          rintro e V3 ⟨v3, rfl, HO3, hb3⟩
          show K _ _
          have hHeld3 := ab_trans hHeld hb3
          refine hK.out _ _ hHeld3 (fun hHeld => ?_)
          clear hK K
          refine wpAnyH_ready (rs := [2]) (by kernel_rfl) (by simp) (AllReadyH.cons rfl (fun K hK => ?_) AllReadyH.nil)
          rw [if_pos (by rfl)]
          refine valWf (some 57) rfl _ (cv_run (x := .tmp 56) rfl rfl HO3.sl) ?_
          refine hK.out _ _ hHeld (fun hHeld => ?_)
          clear hK K
          go_frame
          rw [HNT.out]
          refine takeH (i := 7) (some 62) rfl rfl (by kernel_rfl) (by kernel_rfl) (by kernel_rfl) (fun _ _ _ h => h) (by rfl) (fun w hSw => by (try dsimp only at hSw); go_simp; try rfl) hHeld ?_
          go_frame
          refine wpAnyH_done (by kernel_rfl) ?_ _
          go_wp2_with fail
          go_ret2
          refine ⟨?_, hHeld⟩
          rw [HSn.out]
          rfl
        · have hne : strB (numB x) ≠ strB (l.take (1 + c)) := fun h => hok (HNO.out.1 (by rw [HTL.out]; exact strB_inj HB1.out HB2.out h))
          have hneb := strB_ne hne
          clear HNO HVn
          go_upto_region 12 with fail
          refine wp_region_held_drew (S := fun w' => Below wr.heap.size wr w') (by kernel_rfl) (ab_drew (Below.refl _ _)) (fun hHeld => ?_)
          refine takeH (i := 0) (some 55) rfl rfl (by kernel_rfl) (by kernel_rfl) (by kernel_rfl) (fun _ _ _ h => h) (by rfl) (fun w hSw => by (try dsimp only at hSw); go_simp; try rfl) hHeld ?_
          go_frame
          refine takeH (i := 3) (some 58) rfl rfl (by kernel_rfl) (by kernel_rfl) (by kernel_rfl) (fun _ _ _ h => h) (by rfl) (fun w hSw => by (try dsimp only at hSw); go_simp; try rfl) hHeld ?_
          go_frame
          refine takeH (i := 4) (some 59) rfl rfl (by kernel_rfl) (by kernel_rfl) (by kernel_rfl) (fun _ _ _ h => h) (by rfl) (fun w hSw => by (try dsimp only at hSw); go_simp; try rfl) hHeld ?_
          go_frame
          refine takeH (i := 5) (some 60) rfl rfl (by kernel_rfl) (by kernel_rfl) (by kernel_rfl) (fun _ _ _ h => h) (by rfl) (fun w hSw => by (try dsimp only at hSw); exact (slb_h_run (j := 1 + c) rfl rfl rfl (by omega) (by omega)).trans (by rw [e3])) hHeld ?_
          go_frame
          refine takeH (i := 6) (some 61) rfl rfl (by kernel_rfl) (by kernel_rfl) (by kernel_rfl) (fun _ _ _ h => h) (by rfl) (fun w hSw => by (try dsimp only at hSw); exact cv_run (x := .tmp 60) rfl rfl (s3.keep hSw)) hHeld ?_
          go_frame
          refine wpAnyH_ready (rs := [1]) (by kernel_rfl) (by simp) (AllReadyH.cons rfl (fun K hK => ?_) AllReadyH.nil)
          go_simp
          refine (number_ref _ _ hin.1 hin.2).mono ?_
          rintro e V3 ⟨v3, rfl, HO3, hb3⟩
          show K _ _
          have hHeld3 := ab_trans hHeld hb3
          refine hK.out _ _ hHeld3 (fun hHeld => ?_)
          clear hK K
          refine wpAnyH_ready (rs := [2]) (by kernel_rfl) (by simp) (AllReadyH.cons rfl (fun K hK => ?_) AllReadyH.nil)
          rw [if_pos (by rfl)]
          refine valWf (some 57) rfl _ (cv_run (x := .tmp 56) rfl rfl HO3.sl) ?_
          refine hK.out _ _ hHeld (fun hHeld => ?_)
          clear hK K
          go_frame
          refine takeH (i := 7) (some 62) rfl rfl (by kernel_rfl) (by kernel_rfl) (by kernel_rfl) (fun _ _ _ h => h) (by rfl) (fun w hSw => by (try dsimp only at hSw); go_simp; try rfl) hHeld ?_
          go_frame
          refine wpAnyH_done (by kernel_rfl) ?_ _
          go_wp2_with fail
          go_ret2
          exact ⟨rfl, hHeld⟩
    · obtain ⟨x, hx⟩ : ∃ x, l[k]? = some x := ⟨l[k], List.getElem?_eq_getElem (by omega)⟩
      have hxb := hb.at hx
      have d := HR.out k x hx
      have hst := val_drop (nL l) (k - 1) x (by rw [HAt.out (k - 1) (by omega), show k - 1 + 1 = k by omega]; exact hx)
      rw [show k - 1 + 1 = k by omega] at hst
      have hlt := HLt.out (k - 1)
      have hlk := HLt.out k
      have HST : Hid (val ((nL l).drop (k - 1)) = x + 256 * val ((nL l).drop k)) := hst
      rw [hst] at hlt
      clear hst hx
      generalize hA : val ((nL l).drop k) = A at *
      have hk0 : (0 : Int) < (k : Int) := by omega
      have hkn : (k : Int) < (n : Int) := by omega
      have hkn2 : k < n := by omega
      go_wp2_with fail
      exact ⟨⟨k - 1, by omega, by congr 1; omega, by rw [HST.out]; congr 1; omega, trivial⟩, by simp only [intOf]; omega⟩
end Go.Proofs.YteffpgodookebaaGreat
namespace Go.Proofs.YteffpgodookebaaGreat
open Go.RowKit
set_option linter.unusedVariables false
set_option maxRecDepth 100000

theorem ls_own {W : World} {b n : Nat} {v : Value} {vs : List Value} {ls : List (List Nat)} (ho : W.ownsRow b 65 1 v n vs) (hlen : vs.length = ls.length) (hE : ∀ (j : Nat) (x : Value) (l : List Nat), vs[j]? = some x → ls[j]? = some l → Sl W x l) : Ls W v vs ls := by
  obtain ⟨h1, q, g, cap, rfl, hp, hg, _, _, hc, hm, hr, _⟩ := own_open ho (by omega)
  rw [Nat.mul_one] at h1
  subst h1
  exact ⟨hlen, ⟨q, cap, rfl, hc, hm, fun h0 => ⟨g, 0, hp h0, hg h0, fun j x hx => by rw [Nat.zero_add]; exact hr j x hx⟩⟩, hE⟩
theorem ls_src {W : World} {v : Value} {vs : List Value} {ls : List (List Nat)} (h : Ls W v vs ls) : ∃ q cap, v = .slice q ls.length cap ∧ (q = none → ls.length = 0) ∧ (∀ ad, q = some ad → ∀ j u, vs[j]? = some u → W.cell? (ad.add j) = some u) ∧ ∀ u ∈ vs, u.oneCell' = true := by
  obtain ⟨q, cap, g, off, e, h1, h2, h3, h4, h5⟩ := h.open
  refine ⟨q, cap, e, fun hq => ?_, fun ad ha j u hu => ?_, fun u hu => ?_⟩
  · apply Classical.byContradiction
    intro h0
    have := h3 (by omega)
    rw [hq] at this
    cases this
  · have h0 : 0 < ls.length := by have := (List.getElem?_eq_some_iff.1 hu).1; rw [h.len] at this; omega
    have := h3 h0
    rw [ha] at this
    cases this
    rw [Addr.add_mid]
    exact h5 j u hu
  · obtain ⟨j, hj⟩ := List.getElem?_of_mem hu
    have hjl : j < ls.length := by have := (List.getElem?_eq_some_iff.1 hj).1; rwa [h.len] at this
    obtain ⟨a, b, c, rfl⟩ := (h.each j u _ hj (List.getElem?_eq_getElem hjl)).slice
    rfl
/-- append of a list of bytes onto an own one: its run. -/
theorem app_runL {w : World} (base : Nat) (ty : TypeId) {v vx : Value} {n k : Nat} {xs vs : List Value} {ls : List (List Nat)} (hown : w.ownsRow base 65 1 v n xs) (hsl : Ls w vx vs ls) (hm : ls.length = k) (h63 : n + k ≤ 5864062014805) (hA : base ≤ w.heap.size) :
    ∃ v' w', (Builtin.append_ #[100, 100] ty #[v, vx]).run Tryz.prog w = .ok v' w' ∧ w'.ownsRow base 65 1 v' (n + k) (xs ++ vs) ∧ w.grownBy w' v.ownBlock ∧ (v'.ownBlock = v.ownBlock ∨ v'.ownBlock = some w.heap.size) := by
  obtain ⟨i, hi, hz0, hz1, hz2⟩ := info_parts infoBytes
  subst hm
  obtain ⟨q, cap, rfl, hq, hsrc, hone⟩ := ls_src hsl
  cases q with
  | none =>
    have h0 := hq rfl
    have hv0 : vs = [] := List.eq_nil_of_length_eq_zero (by rw [hsl.len]; exact h0)
    subst hv0
    rw [h0]
    exact ⟨v, w, append_none (P := Tryz.prog) w base 100 ty 65 i 1 cap Tryz.underlying100 hi v n xs hown, by simpa using hown, ⟨rfl, rfl, rfl, Nat.le_refl _, fun _ _ _ => rfl⟩, .inl rfl⟩
  | some ad =>
    obtain ⟨v', w', hr, h2, h3, h4, h5⟩ := run_append_own_at (P := Tryz.prog) w base 100 ty 65 i _ 1 24 Tryz.underlying100 hi hz0 hz1 hz2 rfl (by omega) v n xs hown ad ls.length cap vs (by rw [Nat.mul_one]; exact hsl.len) (hsrc ad rfl) hone (by unfold maxLen; omega) (by omega) hA
    exact ⟨v', w', hr, h2, h3, h5⟩
theorem own_newL (w : World) (xs : List Value) (n : Nat) (hn : xs.length = n) (hm : n ≤ maxLen) : (w.alloc (.cells xs.toArray 65)).ownsRow w.heap.size 65 1 (.slice (some ⟨w.heap.size, 0, none⟩) n n) n xs := by
  refine ⟨by rw [hn, Nat.mul_one], .inr ⟨w.heap.size, n, xs.toArray, rfl, Nat.le_refl _, ?_, Nat.le_refl _, hm, ?_, ?_⟩⟩
  · show (w.heap.push _)[w.heap.size]? = _; simp
  · simp [hn]
  · rw [Nat.mul_one, ← hn]; simp
section
variable {o : Oper} {a : Act} {w : World} {K : Act → World → Prop} {Q : Exit → Act → World → Prop}
theorem lst0W (d : Option Tmp) (hd : o.dst = d) (ho : o.op = .buildSlice 100 0 #[]) (h : ∀ v' W', W'.ownsRow w.heap.size 65 1 v' 0 [] → Below w.heap.size w W' → K (a.put d v') W') : o.wp Tryz.prog a w K Q := by
  subst hd
  have hrun : (Instr.buildSlice 100 0 #[]).run Tryz.prog w = .ok (.slice (some ⟨w.heap.size, 0, none⟩) 0 0) (w.alloc (.cells #[] 65)) := by kernel_rfl
  unfold Oper.wp execOp
  simp only [ho, Sem.run_bind, List.map_toArray, List.map_nil, hrun, Result.andThen_ok]
  exact h _ _ (own_newL w [] 0 rfl (by decide)) ((Below.refl _ _).alloc (Nat.le_refl _) _)
theorem lst1W (d : Option Tmp) (hd : o.dst = d) {x : Operand} (ho : o.op = .buildSlice 100 1 #[(0, x)]) {q : Option Addr} {n c : Nat} (hx : a.eval x = .slice q n c) (h : ∀ v' W', W'.ownsRow w.heap.size 65 1 v' 1 [.slice q n c] → Below w.heap.size w W' → K (a.put d v') W') : o.wp Tryz.prog a w K Q := by
  subst hd
  have hrun := bsl1 q n c w
  unfold Oper.wp execOp
  simp only [ho, Sem.run_bind, List.map_toArray, List.map_cons, List.map_nil, hx, hrun, Result.andThen_ok]
  exact h _ _ (own_newL w [.slice q n c] 1 rfl (by decide)) ((Below.refl _ _).alloc (Nat.le_refl _) _)
theorem appLW (base : Nat) (d : Option Tmp) (hd : o.dst = d) {s x : Operand} (ho : o.op = .call { callee := .builtin .append, args := #[s, x], argTypes := #[100, 100] })
    {v vx : Value} {n k : Nat} {xs vs : List Value} {ls : List (List Nat)} (hs : a.eval s = v) (hown : w.ownsRow base 65 1 v n xs) (hx : a.eval x = vx) (hsl : Ls w vx vs ls) (hm : ls.length = k) (h63 : n + k ≤ 5864062014805) (hA : base ≤ w.heap.size)
    (h : ∀ v' w', w'.ownsRow base 65 1 v' (n + k) (xs ++ vs) → w.grownBy w' v.ownBlock → K (a.put d v') w') : o.wp Tryz.prog a w K Q := by
  subst hd
  obtain ⟨v', w', hr, h1, h2, h3⟩ := app_runL base o.type hown hsl hm h63 hA
  unfold Oper.wp execOp
  simp only [ho, resolve, invoke, builtin, Sem.run_bind, Sem.run_pure, Result.andThen_ok, List.map_toArray, List.map_cons, List.map_nil, hs, hx, hr]
  exact h v' w' h1 h2
end
end Go.Proofs.YteffpgodookebaaGreat
namespace Go.Proofs.YteffpgodookebaaGreat
set_option maxRecDepth 100000
open Go.RowKit
set_option linter.unusedVariables false

end Go.Proofs.YteffpgodookebaaGreat
