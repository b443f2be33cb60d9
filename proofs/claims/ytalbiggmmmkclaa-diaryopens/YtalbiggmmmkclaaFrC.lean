/-
  frame.Put, frame.Take, frame.Wrap.
-/
import Derived.Test.YtalbiggmmmkclaaFrB
import Derived.Test.YtalbiggmmmkclaaBitsW
namespace Go.Proofs.Ytalbiggmmmkclaa
open Go.RowKit
set_option linter.unusedVariables false

/-- A slice of bytes of the call's own. -/
def Ow (W : World) (base : Nat) (v : Value) (l : List Nat) : Prop := W.ownsRow base 5 1 v l.length (bys l)
theorem ow_of {W : World} {base n : Nat} {v : Value} {l : List Nat} (h : W.ownsRow base 5 1 v n (bys l)) : Ow W base v l := by
  have := (own_sl h).1
  unfold Ow
  rw [this]
  exact h
theorem Ow.sl {W : World} {base : Nat} {v : Value} {l : List Nat} (h : Ow W base v l) : Sl W v l := (own_sl h).2
theorem Ow.keep {W W' : World} {base : Nat} {v : Value} {l : List Nat} (h : Ow W base v l) (hb : Below W.heap.size W W') : Ow W' base v l := own_keep h hb
theorem Ow.less {W : World} {base base' : Nat} {v : Value} {l : List Nat} (h : Ow W base v l) (hb : base' ≤ base) : Ow W base' v l := own_less h hb
/-- A slice of numbers, in memory that W has. -/
def Is (W : World) (v : Value) (l : List Int) : Prop := ∃ q cap g off, v = .slice q l.length cap ∧ l.length ≤ cap ∧ cap ≤ 9223372036854775807 ∧ (0 < l.length → q = some ⟨g, off, none⟩) ∧ (0 < l.length → g < W.heap.size) ∧ IRow W g off l
theorem Is.keep {W W' : World} {v : Value} {l : List Int} (h : Is W v l) (hb : Below W.heap.size W W') : Is W' v l := by
  obtain ⟨q, cap, g, off, rfl, h1, h2, h3, h4, h5⟩ := h
  exact ⟨q, cap, g, off, rfl, h1, h2, h3, fun h0 => Nat.lt_of_lt_of_le (h4 h0) hb.size, irow_keep h5 h4 hb⟩
theorem own_is {W : World} {base n : Nat} {v : Value} {l : List Int} (h : W.ownsRow base 3 1 v n (ints l)) : Is W v l := by
  obtain ⟨h1, q, g, cap, rfl, hp, hg, _, _, hc, hm, hr, _⟩ := own_open h (by omega)
  rw [ints_len, Nat.mul_one] at h1
  subst h1
  exact ⟨q, cap, g, 0, rfl, hc, hm, hp, hg, fun j x hx => by rw [Nat.zero_add]; exact hr j _ (by rw [ints_at, hx]; rfl)⟩
/-- All fit. -/
def In64 (l : List Int) : Prop := ∀ x ∈ l, -9223372036854775808 ≤ x ∧ x ≤ 9223372036854775807
theorem numsB_take (l : List Int) (k : Nat) (x : Int) (hx : l[k]? = some x) : numsB (l.take (k + 1)) = numsB (l.take k) ++ numB x := by
  rw [List.take_add_one, hx, Option.toList_some, numsB_snoc]

/-- An error of the program. -/
abbrev Err (n : Int) : Value := .iface 62 (.int .i64 n)
theorem nS_le {l : List Nat} (h : nOK l = true) : nS l ≤ l.length ∧ nS l ≤ 9 ∧ 1 ≤ nS l := by
  have := (nOK_iff l).1 h
  unfold nS
  omega
/-- The lengths of lists, one behind the other. -/
theorem flat_len (ls : List (List Nat)) (k : Nat) (l : List Nat) (h : ls[k]? = some l) : (ls.take (k + 1)).flatten.length = (ls.take k).flatten.length + l.length := by
  rw [flat_take ls k l h, List.length_append]
theorem flat_mono (ls : List (List Nat)) (k : Nat) : (ls.take k).flatten.length ≤ ls.flatten.length := by
  have : ls.flatten = (ls.take k).flatten ++ (ls.drop k).flatten := by rw [← List.flatten_append, List.take_append_drop]
  rw [this, List.length_append]
  omega
theorem flat_byt {ls : List (List Nat)} (h : ∀ l ∈ ls, Byt l) : Byt ls.flatten := by
  intro x hx
  obtain ⟨l, hl, h1⟩ := List.mem_flatten.1 hx
  exact h l hl x h1
set_option maxHeartbeats 400000 in
theorem wrap_noL (v : Value) (vs : List Value) (ls : List (List Nat)) (w : World) (hv : Ls w v vs ls) (hs : ∀ l ∈ ls, l.length ≤ 200000000000000) (hno : 16376 < ls.flatten.length) :
    Calls Try.prog 40 #[v] w fun e w' => e = .returned (.tuple #[.slice none 0 0, Err 7]) ∧ Below w.heap.size w w' := by
  obtain ⟨q, cap, g, off, rfl, hc, hm, hp, hg, hr⟩ := hv.open
  obtain ⟨hlen, -, hE⟩ := hv
  generalize hn : ls.length = n at *
  go_enter Try.func40, Try.ntmps40
  go_wp2_with fail
  go_loopw [4, 12] (fun s i wr => ∃ k : Nat, k ≤ n ∧ i = .int .i64 (k : Int) ∧ s = .int .i64 ((8 + (ls.take k).flatten.length : Nat) : Int) ∧ (ls.take k).flatten.length ≤ 16376 ∧ wr = w) (fun _ i _ => n - (intOf i).toNat)
  case atStart => exact ⟨0, by omega, rfl, rfl, by simp, rfl⟩
  case round =>
    obtain ⟨k, hk, rfl, rfl, hsz, rfl⟩ := hrel
    by_cases c : k = n
    · subst c
      rw [List.take_of_length_le (by omega)] at hsz
      omega
    · obtain ⟨x, hx⟩ : ∃ x, vs[k]? = some x := ⟨vs[k], List.getElem?_eq_getElem (by omega)⟩
      obtain ⟨l, hl⟩ : ∃ l, ls[k]? = some l := ⟨ls[k], List.getElem?_eq_getElem (by omega)⟩
      obtain rfl := hp (by omega)
      have d := hr k x hx
      obtain ⟨q2, cap2, g2, off2, rfl, hc2, hm2, hp2, hg2, hr2⟩ := (hE k x l hx hl).open
      have hl5 := hs l (List.mem_of_getElem? hl)
      have hki : (k : Int) < (n : Int) := by omega
      have hkn : k < n := by omega
      have HF := flat_len ls k l hl
      generalize hA : (ls.take k).flatten.length = A at *
      generalize hn2 : l.length = n2 at *
      clear hr hp hg hx hE hl hs hr2 hp2 hg2
      by_cases hbig : 16376 < A + n2
      · go_wp2_with fail
        go_ret2
        exact ⟨rfl, Below.refl _ _⟩
      · go_wp2_with fail
        exact ⟨⟨k + 1, by omega, rfl, by rw [HF]; congr 1; omega, by omega, trivial⟩, by simp only [intOf]; omega⟩
theorem wrap_no (v : Value) (vs : List Value) (ls : List (List Nat)) (w : World) (hv : Ls w v vs ls) (hs : ∀ l ∈ ls, l.length ≤ 100000) (hno : 16376 < ls.flatten.length) :
    Calls Try.prog 40 #[v] w fun e w' => e = .returned (.tuple #[.slice none 0 0, Err 7]) ∧ Below w.heap.size w w' :=
  wrap_noL v vs ls w hv (fun l hl => Nat.le_trans (hs l hl) (by decide)) hno
theorem spell4 (A : World) (v : Value) (l : List Nat) (u : Nat) (w : World) (hA : Below A.heap.size A w) (hown : Ow w A.heap.size v l) (hn : l.length ≤ 500000) (hu : u < 18446744073709551616) :
    Calls Try.prog 54 #[v, .int .u64 ((u : Nat) : Int), .int .i64 4] w fun e w' => ∃ v', e = .returned v' ∧ Ow w' A.heap.size v' (l ++ spl u 4) ∧ Below A.heap.size A w' :=
  (spell_any A v l l.length u 4 w hA hown hn (by omega) hu).mono fun e w' ⟨v', h1, h2, h3⟩ => ⟨v', h1, ow_of h2, h3⟩
theorem ow_empty {W : World} {base : Nat} {v : Value} (h : W.ownsRow base 5 1 v 0 []) : Ow W base v [] := h
set_option maxHeartbeats 1000000 in
theorem wrap_ok (v : Value) (vs : List Value) (ls : List (List Nat)) (w : World) (hv : Ls w v vs ls) (hb : ∀ l ∈ ls, Byt l) (hok : ls.flatten.length ≤ 16376) :
    Calls Try.prog 40 #[v] w fun e w' => ∃ v', e = .returned (.tuple #[v', .nilIface]) ∧ Ow w' w.heap.size v' (frm ls.flatten) ∧ v' ≠ .slice none 0 0 ∧ Below w.heap.size w w' := by
  have hv0 := hv
  obtain ⟨q, cap, g, off, rfl, hc, hm, hp, hg, hr⟩ := hv.open
  obtain ⟨hlen, -, hE⟩ := hv
  generalize hn : ls.length = n at *
  go_enter Try.func40, Try.ntmps40
  go_wp2_with fail
  go_loopw [4, 12] (fun s i wr => ∃ k : Nat, k ≤ n ∧ i = .int .i64 (k : Int) ∧ s = .int .i64 ((8 + (ls.take k).flatten.length : Nat) : Int) ∧ wr = w) (fun _ i _ => n - (intOf i).toNat)
  case atStart => exact ⟨0, by omega, rfl, rfl, rfl⟩
  case round =>
    obtain ⟨k, hk, rfl, rfl, rfl⟩ := hrel
    by_cases c : k = n
    · subst c
      rw [List.take_of_length_le (by omega)]
      have HM : Hid (∀ k, (ls.take k).flatten.length ≤ ls.flatten.length) := flat_mono ls
      have HF : Hid (frm ls.flatten = spl ls.flatten.length 4 ++ spl (sm ls.flatten) 4 ++ ls.flatten) := rfl
      have hsm := sm_lt ls.flatten
      generalize hT : ls.flatten.length = T at *
      go_upto_region 10 with (refine mk_own wr rfl rfl Try.underlying39 infoByte rfl rfl rfl (by omega) (by unfold maxLen; omega) (Below.refl _ _) ?_; intro v1 W1 hown1 hv1 hb1 hb1'; clear hb1')
      have e8 : (8 : Int) + (T : Int) - 8 = ((T : Nat) : Int) := by omega
      have HO1 := ow_empty hown1
      go_upto_region 11 with (go_at_call 54; refine (spell4 wr _ [] T _ hb1 HO1 (by simp) (by omega)).mono ?_; rintro e W2 ⟨v2, rfl, hown2, hb2⟩)
      have HO2 : Ow W2 wr.heap.size v2 (spl T 4) := hown2
      have hls := hv0.keep hb2
      go_upto_region 12 with (first
        | (go_at_call 55; refine (sum_any _ _ _ _ hls hb).mono ?_; rintro e W3 ⟨rfl, rfl⟩)
        | (go_at_call 54; refine (spell4 wr _ _ _ _ hb2 HO2 (by rw [spl_len]; omega) (by omega)).mono ?_; rintro e W4 ⟨v4, rfl, HO4, hb4⟩))
      clear hown1 hv1 hb1 HO1 hown2 hb2 HO2 hls
      go_wp2_with fail
      go_loopw [7, 38] (fun x i wr' => ∃ j : Nat, j ≤ k ∧ i = .int .i64 (j : Int) ∧ Ow wr' wr.heap.size x (spl T 4 ++ spl (sm ls.flatten) 4 ++ (ls.take j).flatten) ∧ Below wr.heap.size wr wr') (fun _ i _ => k - (intOf i).toNat)
      case atStart => exact ⟨0, by omega, rfl, by simpa using HO4, hb4⟩
      case round =>
        clear HO4 hb4
        obtain ⟨j, hj, rfl, HO, hbj⟩ := hrel
        by_cases c2 : j = k
        · subst c2
          rw [List.take_of_length_le (by omega), ← HF.out] at HO
          clear hp hg hr hb hE hv0
          go_wp2_with fail
          go_ret2
          refine ⟨_, rfl, HO, ?_, hbj⟩
          intro e
          subst e
          have h1 := HO.sl.len
          rw [frm_len] at h1
          omega
        · obtain ⟨x, hx⟩ : ∃ x, vs[j]? = some x := ⟨vs[j], List.getElem?_eq_getElem (by omega)⟩
          obtain ⟨l, hl⟩ : ∃ l, ls[j]? = some l := ⟨ls[j], List.getElem?_eq_getElem (by omega)⟩
          obtain rfl := hp (by omega)
          have d := (hbj.cell (p := ⟨g, off + j, none⟩) (hg (by omega))).trans (hr j x hx)
          have hsx := (hE j x l hx hl).keep hbj
          obtain ⟨q2, cap2, g2, off2, rfl, hc2, hm2, hp2, hg2, hr2⟩ := hsx.open
          have hki : (j : Int) < (k : Int) := by omega
          have hkn : j < k := by omega
          have HFL := flat_len ls j l hl
          have HM1 := HM.out (j + 1)
          have HFT : Hid ((ls.take (j + 1)).flatten = (ls.take j).flatten ++ l) := flat_take ls j l hl
          have HLn : Hid ((spl T 4 ++ spl (sm ls.flatten) 4 ++ (ls.take j).flatten).length + l.length ≤ 1000000) := by
            show _ ≤ _
            rw [List.length_append, List.length_append, spl_len, spl_len]
            omega
          clear hr hp hg hx hE hl hb hv0 hr2 hp2 hg2
          generalize hn2 : l.length = n2 at *
          go_wp2_with (first
            | (at_builtin; refine app_by _ rfl rfl rfl HO rfl hsx hn2 HLn.out hbj ?_; intro v5 W5 hown5 hnil5 hb5 hgr5 hat5))
          refine ⟨⟨j + 1, by omega, rfl, ?_, hb5⟩, by simp only [intOf]; omega⟩
          rw [HFT.out, ← List.append_assoc]
          exact ow_of hown5
    · obtain ⟨x, hx⟩ : ∃ x, vs[k]? = some x := ⟨vs[k], List.getElem?_eq_getElem (by omega)⟩
      obtain ⟨l, hl⟩ : ∃ l, ls[k]? = some l := ⟨ls[k], List.getElem?_eq_getElem (by omega)⟩
      obtain rfl := hp (by omega)
      have d := hr k x hx
      obtain ⟨q2, cap2, g2, off2, rfl, hc2, hm2, hp2, hg2, hr2⟩ := (hE k x l hx hl).open
      have hki : (k : Int) < (n : Int) := by omega
      have hkn : k < n := by omega
      have HF := flat_len ls k l hl
      have HM := flat_mono ls (k + 1)
      generalize hA : (ls.take k).flatten.length = A at *
      generalize hA2 : (ls.take (k + 1)).flatten.length = A2 at *
      generalize hn2 : l.length = n2 at *
      have hbig : ¬ 16376 < A + n2 := by omega
      clear hr hp hg hx hE hl hb hv0 hr2 hp2 hg2
      go_wp2_with fail
      exact ⟨⟨k + 1, by omega, rfl, by rw [hA2]; congr 1; omega, trivial⟩, by simp only [intOf]; omega⟩
end Go.Proofs.Ytalbiggmmmkclaa
