/-
  How many binary digits amounts have: floor.Bits and the document's Bits.
  frame.Put, frame.Take, frame.Wrap.
  Slices that are each its own; frame.Split, frame.Unwrap, frame.Nums.
-/
import Derived.Test.YtlhamckpgijjmaaPk03
import Derived.Lib.BitFns
import Derived.Test.YtlhamckpgijjmaaPk05
namespace Go.Proofs.Ytlhamckpgijjmaa.floorBits
open Go.RowKit
set_option linter.unusedVariables false

theorem tab_size : Lib.len8tab.size = 256 := by decide +kernel
theorem tab_all : ∀ n : Fin 256, (Lib.len8tab[n.val]'(by rw [tab_size]; exact n.2)).toNat = Lib.bitLen n.val := by decide +kernel
theorem tab_at (n : Nat) (h : n < Lib.len8tab.size) : (Lib.len8tab[n]'h).toNat = Lib.bitLen n := tab_all ⟨n, by rw [tab_size] at h; exact h⟩
theorem fin_num (x y b : Int) (s : Nat) (hx0 : 0 ≤ x) (hx : x ≤ 18446744073709551615) (hy0 : 0 ≤ y) (hy : y ≤ 255) (hs : s ≤ 56) (e : y.toNat = x.toNat / 2 ^ s) (hl : 2 ^ s ≤ x.toNat) (hb : b = (Lib.bitLen y.toNat : Int)) :
    wrap64 (s + wrap64 b) = (Lib.bitLen x.toNat : Int) := by
  have hx' : x.toNat < 2 ^ 64 := by clear hb hl e; omega
  have l := Lib.bitLen_le8' y hy0 hy
  have sh := Lib.bitLen_shift s x.toNat hl hx'
  rw [hb, sh]; rw [e] at l ⊢
  generalize Lib.bitLen (x.toNat / 2 ^ s) = B at l ⊢
  clear hb sh e hl hx'
  unfold wrap64; omega
theorem fin_num0 (x b : Int) (hx0 : 0 ≤ x) (hx : x ≤ 255) (hb : b = (Lib.bitLen x.toNat : Int)) : wrap64 (wrap64 b) = (Lib.bitLen x.toNat : Int) := by
  have l := Lib.bitLen_le8' x hx0 hx
  rw [hb]; clear hb
  generalize Lib.bitLen x.toNat = B at l ⊢
  unfold wrap64; omega
theorem tab_int (n : Nat) (h : n < Lib.len8tab.size) : ((Lib.len8tab[n]'h).toNat : Int) = (Lib.bitLen n : Int) := congrArg Int.ofNat (tab_at n h)

set_option maxHeartbeats 1000000 in
set_option maxRecDepth 100000 in
theorem len64_any (x : Int) (w : World) (h0 : 0 ≤ x) (h1 : x ≤ 18446744073709551615) :
    Calls Try.prog 78 #[.int .u64 x] w fun e w' => e = .returned (.int .i64 (Lib.bitLen x.toNat)) ∧ w' = w := by
  have hsz := tab_size
  go_enter Try.func78, Try.ntmps78
  go_wp2
  all_goals (go_ret; refine ⟨ret_int ?_, rfl⟩)
  · exact fin_num x _ _ 56 h0 h1 (by omega) (by omega) (by omega) (by omega) (by omega) (tab_int _ _)
  · exact fin_num x _ _ 48 h0 h1 (by omega) (by omega) (by omega) (by omega) (by omega) (tab_int _ _)
  · exact fin_num x _ _ 40 h0 h1 (by omega) (by omega) (by omega) (by omega) (by omega) (tab_int _ _)
  · exact fin_num x _ _ 32 h0 h1 (by omega) (by omega) (by omega) (by omega) (by omega) (tab_int _ _)
  · exact fin_num x _ _ 24 h0 h1 (by omega) (by omega) (by omega) (by omega) (by omega) (tab_int _ _)
  · exact fin_num x _ _ 16 h0 h1 (by omega) (by omega) (by omega) (by omega) (by omega) (tab_int _ _)
  · exact fin_num x _ _ 8 h0 h1 (by omega) (by omega) (by omega) (by omega) (by omega) (tab_int _ _)
  · exact fin_num0 x _ h0 (by omega) (tab_int _ _)

theorem amount_eq (n : Int) (h0 : -9223372036854775808 ≤ n) (h1 : n ≤ 9223372036854775807) : IntKind.u64.wrap (wrap64 (bits .xor .i64 n (sgn n) - sgn n)) = (n.natAbs : Int) := by
  unfold sgn
  by_cases c : n < 0
  · rw [if_pos c, xor_m1 n h0 h1, IntKind.wrap_u64]; unfold wrap64; omega
  · rw [if_neg c, xor_0 n h0 h1, IntKind.wrap_u64]; unfold wrap64; omega

theorem pow_le {j m : Nat} (h : 2 ^ j ≤ m) (hm : m ≤ 9223372036854775807) : j ≤ 62 := by
  rcases Nat.lt_or_ge j 63 with c | c
  · omega
  · have := Nat.pow_le_pow_right (show 0 < 2 by omega) c
    omega
theorem bitLen_of (x k : Nat) (h : 2 ^ k ≤ x) (h' : x < 2 ^ (k + 1)) (hx : x < 2 ^ 64) : Lib.bitLen x = k + 1 := by
  have hp : 0 < 2 ^ k := Nat.two_pow_pos k
  rw [Lib.bitLen_shift k x h hx, show x / 2 ^ k = 1 from Nat.div_eq_of_lt_le (by omega) (by rw [Nat.pow_succ] at h'; omega)]; rfl

theorem bl_bd (n : Int) (h0 : -9223372036854775808 ≤ n) (h1 : n ≤ 9223372036854775807) : Lib.bitLen n.natAbs ≤ 64 := Lib.bitLenAux_le 64 _ 64 (by omega)

end Go.Proofs.Ytlhamckpgijjmaa.floorBits
namespace Go.Proofs.Ytlhamckpgijjmaa
open Go.RowKit
set_option linter.unusedVariables false

/-- A slice of bytes of the call's own. -/
def Ow (W : World) (base : Nat) (v : Value) (l : List Nat) : Prop := W.ownsRow base 5 1 v l.length (bys l)
theorem ow_of {W : World} {base n : Nat} {v : Value} {l : List Nat} (h : W.ownsRow base 5 1 v n (bys l)) : Ow W base v l := by
  have := (own_sl h).1
  unfold Ow
  rw [this]
  exact h
theorem Ow.sl {W : World} {base : Nat} {v : Value} {l : List Nat} (h : Ow W base v l) : Sl W v l := (own_sl h).2
theorem Ow.keep {W W' : World} {base : Nat} {v : Value} {l : List Nat} (h : Ow W base v l) (hb : Below W.heap.size W W') : Ow W' base v l := own_keep h hb
theorem Ow.less {W : World} {base base' : Nat} {v : Value} {l : List Nat} (h : Ow W base v l) (hb : base' ≤ base) : Ow W base' v l := own_less h hb
/-- A slice of numbers, in memory that W has. -/
def Is (W : World) (v : Value) (l : List Int) : Prop := ∃ q cap g off, v = .slice q l.length cap ∧ l.length ≤ cap ∧ cap ≤ 9223372036854775807 ∧ (0 < l.length → q = some ⟨g, off, none⟩) ∧ (0 < l.length → g < W.heap.size) ∧ IRow W g off l
theorem Is.keep {W W' : World} {v : Value} {l : List Int} (h : Is W v l) (hb : Below W.heap.size W W') : Is W' v l := by
  obtain ⟨q, cap, g, off, rfl, h1, h2, h3, h4, h5⟩ := h
  exact ⟨q, cap, g, off, rfl, h1, h2, h3, fun h0 => Nat.lt_of_lt_of_le (h4 h0) hb.size, irow_keep h5 h4 hb⟩
theorem own_is {W : World} {base n : Nat} {v : Value} {l : List Int} (h : W.ownsRow base 3 1 v n (ints l)) : Is W v l := by
  obtain ⟨h1, q, g, cap, rfl, hp, hg, _, _, hc, hm, hr, _⟩ := own_open h (by omega)
  rw [ints_len, Nat.mul_one] at h1
  subst h1
  exact ⟨q, cap, g, 0, rfl, hc, hm, hp, hg, fun j x hx => by rw [Nat.zero_add]; exact hr j _ (by rw [ints_at, hx]; rfl)⟩
/-- All fit. -/
def In64 (l : List Int) : Prop := ∀ x ∈ l, -9223372036854775808 ≤ x ∧ x ≤ 9223372036854775807
theorem numsB_take (l : List Int) (k : Nat) (x : Int) (hx : l[k]? = some x) : numsB (l.take (k + 1)) = numsB (l.take k) ++ numB x := by
  rw [List.take_add_one, hx, Option.toList_some, numsB_snoc]

set_option maxHeartbeats 400000 in
theorem put_any (v : Value) (l : List Nat) (v2 : Value) (ns : List Int) (w : World) (hv : Sl w v l) (hl : l.length ≤ 100000) (hi : Is w v2 ns) (hn4 : ns.length ≤ 4000) (h64 : In64 ns) :
    Calls Try.prog 65 #[v, v2] w fun e w' => ∃ v', e = .returned v' ∧ Ow w' w.heap.size v' (l ++ numsB ns) ∧ Below w.heap.size w w' := by
  obtain ⟨q, cap, g, off, rfl, hc, hm, hp, hg, hr⟩ := hi
  generalize hn : ns.length = n at *
  go_enter Try.func65, Try.ntmps65
  go_upto_region 2 with (go_at_call 50; refine (clone_any _ l _ hv (by omega)).mono ?_; rintro e W1 ⟨v1, rfl, hown, hb⟩)
  go_wp2_with fail
  go_loopw [5, 14] (fun x i wr => ∃ k : Nat, k ≤ n ∧ i = .int .i64 (k : Int) ∧ Ow wr w.heap.size x (l ++ numsB (ns.take k)) ∧ Below w.heap.size w wr) (fun _ i _ => n - (intOf i).toNat)
  case atStart => exact ⟨0, by omega, rfl, ow_of (n := l.length) (by simpa [numsB] using hown), hb⟩
  case round =>
    clear hown hb hv W1
    obtain ⟨k, hk, rfl, hown, hb⟩ := hrel
    by_cases c : k = n
    · subst c
      rw [List.take_of_length_le (by omega)] at hown
      clear hr hp hg h64
      go_wp2_with fail
      go_ret
      exact ⟨_, rfl, hown, hb⟩
    · obtain ⟨x, hx⟩ : ∃ x, ns[k]? = some x := ⟨ns[k], List.getElem?_eq_getElem (by omega)⟩
      obtain rfl := hp (by omega)
      have hx64 := h64 x (List.mem_of_getElem? hx)
      have d := (hb.cell (p := ⟨g, off + k, none⟩) (hg (by omega))).trans (hr k x hx)
      have hki : (k : Int) < (n : Int) := by omega
      have hkn : k < n := by omega
      have hz := zig_lt x hx64.1 hx64.2
      have HB : Hid ((Lib.bitLen (zig x) + 7) / 8 = (leB 8 (zig x)).length) := bitLen_len _ hz
      have HB2 : Hid (Lib.bitLen (zig x) ≤ 64) := by
        have h1 := leB_le 8 (zig x)
        rw [← HB.out] at h1
        show _ ≤ _
        generalize Lib.bitLen (zig x) = B at *
        omega
      have hle := leB_le 8 (zig x)
      have HT : Hid (numsB (ns.take (k + 1)) = numsB (ns.take k) ++ ((leB 8 (zig x)).length :: spl (zig x) (leB 8 (zig x)).length)) := by
        show _ = _
        rw [← leB_spl]
        exact numsB_take ns k x hx
      have HL : Hid ((l ++ numsB (ns.take k)).length ≤ 200000) := by
        have := numsB_len (ns.take k)
        rw [List.length_take] at this
        show _ ≤ _
        rw [List.length_append]
        omega
      clear hr hp hg h64 hx
      generalize hZ : zig x = Z at *
      generalize hBL : Lib.bitLen Z = B at *
      generalize hS : (leB 8 Z).length = s at *
      have hq := HB.out
      have hB2 := HB2.out
      have eq1 : ((B : Int) + 7).tdiv 8 = ((s : Nat) : Int) := by
        rw [Int.tdiv_eq_ediv_of_nonneg (by omega)]
        omega
      go_upto_region 6 with (go_at_call 77; refine (turn_any _ _ hx64.1 hx64.2).mono ?_; rintro e W2 ⟨rfl, rfl⟩; rw [hZ])
      go_upto_region 7 with (go_at_call 78; refine (floorBits.len64_any _ _ (by omega) (by omega)).mono ?_; rintro e W2 ⟨rfl, rfl⟩; rw [Int.toNat_natCast, hBL])
      go_wp2_with (first
        | (refine bs_by rfl rfl [s] (vs := #[(0, .int .u8 ((s : Nat) : Int))]) (by simp only [List.map_toArray, List.map_cons, List.map_nil]; rfl) (bsb1 _ _) rfl (by decide) ?_; intro W3 hN b3 z3)
        | (at_builtin; refine app_by w rfl rfl rfl (hown.keep b3) rfl (own_sl hN).2 rfl (by have := HL.out; show _ + 1 ≤ _; omega) (ab_trans hb b3) ?_; intro v4 W4 hown4 hnil4 hb4 hgr4 hat4)
        | (go_at_call 73; refine (spell_any w _ _ _ _ _ _ hb4 hown4 (by have := HL.out; show _ + 1 ≤ _; omega) hle hz).mono ?_; rintro e W5 ⟨v5, rfl, hown5, hb5⟩))
      refine ⟨⟨k + 1, by omega, rfl, ?_, hb5⟩, by simp only [intOf]; omega⟩
      rw [HT.out]
      have := ow_of hown5
      simpa using this

/-- An error of the program. -/
abbrev Err (n : Int) : Value := .iface 55 (.int .i64 n)
theorem nS_le {l : List Nat} (h : nOK l = true) : nS l ≤ l.length ∧ nS l ≤ 9 ∧ 1 ≤ nS l := by
  have := (nOK_iff l).1 h
  unfold nS
  omega
/-- The lengths of lists, one behind the other. -/
theorem flat_len (ls : List (List Nat)) (k : Nat) (l : List Nat) (h : ls[k]? = some l) : (ls.take (k + 1)).flatten.length = (ls.take k).flatten.length + l.length := by
  rw [flat_take ls k l h, List.length_append]
theorem flat_mono (ls : List (List Nat)) (k : Nat) : (ls.take k).flatten.length ≤ ls.flatten.length := by
  have : ls.flatten = (ls.take k).flatten ++ (ls.drop k).flatten := by rw [← List.flatten_append, List.take_append_drop]
  rw [this, List.length_append]
  omega
theorem flat_byt {ls : List (List Nat)} (h : ∀ l ∈ ls, Byt l) : Byt ls.flatten := by
  intro x hx
  obtain ⟨l, hl, h1⟩ := List.mem_flatten.1 hx
  exact h l hl x h1
set_option maxHeartbeats 400000 in
theorem wrap_noL (v : Value) (vs : List Value) (ls : List (List Nat)) (w : World) (hv : Ls w v vs ls) (hs : ∀ l ∈ ls, l.length ≤ 200000000000000) (hno : 16376 < ls.flatten.length) :
    Calls Try.prog 63 #[v] w fun e w' => e = .returned (.tuple #[.slice none 0 0, Err 7]) ∧ Below w.heap.size w w' := by
  obtain ⟨q, cap, g, off, rfl, hc, hm, hp, hg, hr⟩ := hv.open
  obtain ⟨hlen, -, hE⟩ := hv
  generalize hn : ls.length = n at *
  go_enter Try.func63, Try.ntmps63
  go_wp2_with fail
  go_loopw [4, 12] (fun s i wr => ∃ k : Nat, k ≤ n ∧ i = .int .i64 (k : Int) ∧ s = .int .i64 ((8 + (ls.take k).flatten.length : Nat) : Int) ∧ (ls.take k).flatten.length ≤ 16376 ∧ wr = w) (fun _ i _ => n - (intOf i).toNat)
  case atStart => exact ⟨0, by omega, rfl, rfl, by simp, rfl⟩
  case round =>
    obtain ⟨k, hk, rfl, rfl, hsz, rfl⟩ := hrel
    by_cases c : k = n
    · subst c
      rw [List.take_of_length_le (by omega)] at hsz
      omega
    · obtain ⟨x, hx⟩ : ∃ x, vs[k]? = some x := ⟨vs[k], List.getElem?_eq_getElem (by omega)⟩
      obtain ⟨l, hl⟩ : ∃ l, ls[k]? = some l := ⟨ls[k], List.getElem?_eq_getElem (by omega)⟩
      obtain rfl := hp (by omega)
      have d := hr k x hx
      obtain ⟨q2, cap2, g2, off2, rfl, hc2, hm2, hp2, hg2, hr2⟩ := (hE k x l hx hl).open
      have hl5 := hs l (List.mem_of_getElem? hl)
      have hki : (k : Int) < (n : Int) := by omega
      have hkn : k < n := by omega
      have HF := flat_len ls k l hl
      generalize hA : (ls.take k).flatten.length = A at *
      generalize hn2 : l.length = n2 at *
      clear hr hp hg hx hE hl hs hr2 hp2 hg2
      by_cases hbig : 16376 < A + n2
      · go_wp2_with fail
        go_ret2
        exact ⟨rfl, Below.refl _ _⟩
      · go_wp2_with fail
        exact ⟨⟨k + 1, by omega, rfl, by rw [HF]; congr 1; omega, by omega, trivial⟩, by simp only [intOf]; omega⟩
theorem wrap_no (v : Value) (vs : List Value) (ls : List (List Nat)) (w : World) (hv : Ls w v vs ls) (hs : ∀ l ∈ ls, l.length ≤ 100000) (hno : 16376 < ls.flatten.length) :
    Calls Try.prog 63 #[v] w fun e w' => e = .returned (.tuple #[.slice none 0 0, Err 7]) ∧ Below w.heap.size w w' :=
  wrap_noL v vs ls w hv (fun l hl => Nat.le_trans (hs l hl) (by decide)) hno
theorem spell4 (A : World) (v : Value) (l : List Nat) (u : Nat) (w : World) (hA : Below A.heap.size A w) (hown : Ow w A.heap.size v l) (hn : l.length ≤ 500000) (hu : u < 18446744073709551616) :
    Calls Try.prog 73 #[v, .int .u64 ((u : Nat) : Int), .int .i64 4] w fun e w' => ∃ v', e = .returned v' ∧ Ow w' A.heap.size v' (l ++ spl u 4) ∧ Below A.heap.size A w' :=
  (spell_any A v l l.length u 4 w hA hown hn (by omega) hu).mono fun e w' ⟨v', h1, h2, h3⟩ => ⟨v', h1, ow_of h2, h3⟩
theorem ow_empty {W : World} {base : Nat} {v : Value} (h : W.ownsRow base 5 1 v 0 []) : Ow W base v [] := h
set_option maxHeartbeats 1000000 in
theorem wrap_ok (v : Value) (vs : List Value) (ls : List (List Nat)) (w : World) (hv : Ls w v vs ls) (hb : ∀ l ∈ ls, Byt l) (hok : ls.flatten.length ≤ 16376) :
    Calls Try.prog 63 #[v] w fun e w' => ∃ v', e = .returned (.tuple #[v', .nilIface]) ∧ Ow w' w.heap.size v' (frm ls.flatten) ∧ v' ≠ .slice none 0 0 ∧ Below w.heap.size w w' := by
  have hv0 := hv
  obtain ⟨q, cap, g, off, rfl, hc, hm, hp, hg, hr⟩ := hv.open
  obtain ⟨hlen, -, hE⟩ := hv
  generalize hn : ls.length = n at *
  go_enter Try.func63, Try.ntmps63
  go_wp2_with fail
  go_loopw [4, 12] (fun s i wr => ∃ k : Nat, k ≤ n ∧ i = .int .i64 (k : Int) ∧ s = .int .i64 ((8 + (ls.take k).flatten.length : Nat) : Int) ∧ wr = w) (fun _ i _ => n - (intOf i).toNat)
  case atStart => exact ⟨0, by omega, rfl, rfl, rfl⟩
  case round =>
    obtain ⟨k, hk, rfl, rfl, rfl⟩ := hrel
    by_cases c : k = n
    · subst c
      rw [List.take_of_length_le (by omega)]
      have HM : Hid (∀ k, (ls.take k).flatten.length ≤ ls.flatten.length) := flat_mono ls
      have HF : Hid (frm ls.flatten = spl ls.flatten.length 4 ++ spl (sm ls.flatten) 4 ++ ls.flatten) := rfl
      have hsm := sm_lt ls.flatten
      generalize hT : ls.flatten.length = T at *
      go_upto_region 10 with (refine mk_own wr rfl rfl Try.underlying59 infoByte rfl rfl rfl (by omega) (by unfold maxLen; omega) (Below.refl _ _) ?_; intro v1 W1 hown1 hv1 hb1 hb1'; clear hb1')
      have e8 : (8 : Int) + (T : Int) - 8 = ((T : Nat) : Int) := by omega
      have HO1 := ow_empty hown1
      go_upto_region 11 with (go_at_call 73; refine (spell4 wr _ [] T _ hb1 HO1 (by simp) (by omega)).mono ?_; rintro e W2 ⟨v2, rfl, hown2, hb2⟩)
      have HO2 : Ow W2 wr.heap.size v2 (spl T 4) := hown2
      have hls := hv0.keep hb2
      go_upto_region 12 with (first
        | (go_at_call 68; refine (sum_any _ _ _ _ hls hb).mono ?_; rintro e W3 ⟨rfl, rfl⟩)
        | (go_at_call 73; refine (spell4 wr _ _ _ _ hb2 HO2 (by rw [spl_len]; omega) (by omega)).mono ?_; rintro e W4 ⟨v4, rfl, HO4, hb4⟩))
      clear hown1 hv1 hb1 HO1 hown2 hb2 HO2 hls
      go_wp2_with fail
      go_loopw [7, 38] (fun x i wr' => ∃ j : Nat, j ≤ k ∧ i = .int .i64 (j : Int) ∧ Ow wr' wr.heap.size x (spl T 4 ++ spl (sm ls.flatten) 4 ++ (ls.take j).flatten) ∧ Below wr.heap.size wr wr') (fun _ i _ => k - (intOf i).toNat)
      case atStart => exact ⟨0, by omega, rfl, by simpa using HO4, hb4⟩
      case round =>
        clear HO4 hb4
        obtain ⟨j, hj, rfl, HO, hbj⟩ := hrel
        by_cases c2 : j = k
        · subst c2
          rw [List.take_of_length_le (by omega), ← HF.out] at HO
          clear hp hg hr hb hE hv0
          go_wp2_with fail
          go_ret2
          refine ⟨_, rfl, HO, ?_, hbj⟩
          intro e
          subst e
          have h1 := HO.sl.len
          rw [frm_len] at h1
          omega
        · obtain ⟨x, hx⟩ : ∃ x, vs[j]? = some x := ⟨vs[j], List.getElem?_eq_getElem (by omega)⟩
          obtain ⟨l, hl⟩ : ∃ l, ls[j]? = some l := ⟨ls[j], List.getElem?_eq_getElem (by omega)⟩
          obtain rfl := hp (by omega)
          have d := (hbj.cell (p := ⟨g, off + j, none⟩) (hg (by omega))).trans (hr j x hx)
          have hsx := (hE j x l hx hl).keep hbj
          obtain ⟨q2, cap2, g2, off2, rfl, hc2, hm2, hp2, hg2, hr2⟩ := hsx.open
          have hki : (j : Int) < (k : Int) := by omega
          have hkn : j < k := by omega
          have HFL := flat_len ls j l hl
          have HM1 := HM.out (j + 1)
          have HFT : Hid ((ls.take (j + 1)).flatten = (ls.take j).flatten ++ l) := flat_take ls j l hl
          have HLn : Hid ((spl T 4 ++ spl (sm ls.flatten) 4 ++ (ls.take j).flatten).length + l.length ≤ 1000000) := by
            show _ ≤ _
            rw [List.length_append, List.length_append, spl_len, spl_len]
            omega
          clear hr hp hg hx hE hl hb hv0 hr2 hp2 hg2
          generalize hn2 : l.length = n2 at *
          go_wp2_with (first
            | (at_builtin; refine app_by _ rfl rfl rfl HO rfl hsx hn2 HLn.out hbj ?_; intro v5 W5 hown5 hnil5 hb5 hgr5 hat5))
          refine ⟨⟨j + 1, by omega, rfl, ?_, hb5⟩, by simp only [intOf]; omega⟩
          rw [HFT.out, ← List.append_assoc]
          exact ow_of hown5
    · obtain ⟨x, hx⟩ : ∃ x, vs[k]? = some x := ⟨vs[k], List.getElem?_eq_getElem (by omega)⟩
      obtain ⟨l, hl⟩ : ∃ l, ls[k]? = some l := ⟨ls[k], List.getElem?_eq_getElem (by omega)⟩
      obtain rfl := hp (by omega)
      have d := hr k x hx
      obtain ⟨q2, cap2, g2, off2, rfl, hc2, hm2, hp2, hg2, hr2⟩ := (hE k x l hx hl).open
      have hki : (k : Int) < (n : Int) := by omega
      have hkn : k < n := by omega
      have HF := flat_len ls k l hl
      have HM := flat_mono ls (k + 1)
      generalize hA : (ls.take k).flatten.length = A at *
      generalize hA2 : (ls.take (k + 1)).flatten.length = A2 at *
      generalize hn2 : l.length = n2 at *
      have hbig : ¬ 16376 < A + n2 := by omega
      clear hr hp hg hx hE hl hb hv0 hr2 hp2 hg2
      go_wp2_with fail
      exact ⟨⟨k + 1, by omega, rfl, by rw [hA2]; congr 1; omega, trivial⟩, by simp only [intOf]; omega⟩
/-- A constant text turned into bytes: the new row gets a mark behind its last cell. -/
theorem cv_t {ops : Array Oper} {rest : List Oper} {o : Oper} {a : Act} {w : World} {Q : Exit → Act → World → Prop} (hw : Region.wanted o (yielded ops a.tmps) = true) {x : Operand} (ho : o.op = .convert 59 59 x)
    {base g n c : Nat} {m : List Nat} (hx : a.eval x = .slice (some ⟨g, 0, none⟩) n c) (hown : w.ownsRow base 5 1 (.slice (some ⟨g, 0, none⟩) n c) n (bys m))
    (h : ∀ W', Sl W' (.slice (some ⟨g, 0, none⟩) n c) m → Chg g w W' → wpList Try.prog ops Q rest (a.put o.dst (.slice (some ⟨g, 0, none⟩) n c)) W') : wpList Try.prog ops Q (o :: rest) a w := by
  obtain ⟨hl, hs⟩ := own_sl hown
  rcases hown.2 with ⟨h2, _⟩ | ⟨g', cap', cur, e, hb, hg, hnc, hcm, hcs, ht⟩
  · cases h2
  · cases e
    have hsh : w.shape? g = some (5, cur.size) := by unfold World.shape?; rw [hg]
    have hrun : (convert 59 59 (.slice (some ⟨g, 0, none⟩) n c)).run Try.prog w = .ok (.slice (some ⟨g, 0, none⟩) n c) (w.freeze ⟨g, cur.size, none⟩ 1) := by
      simp [convert, run_underlying Try.underlying59, run_underlying Try.underlying5, markStringish, hsh]
    have hf : (w.freeze ⟨g, cur.size, none⟩ 1).heap[g]? = some (.cells cur 5 (cur.size, cur.size + 1)) := by
      unfold World.freeze
      rw [if_neg (by decide)]
      simp [Array.getElem?_modify, hg]
    have hchg : Chg g w (w.freeze ⟨g, cur.size, none⟩ 1) := by
      unfold World.freeze
      rw [if_neg (by decide)]
      exact ⟨rfl, rfl, rfl, by simp, fun k hk => by simp [Array.getElem?_modify, Ne.symm hk]⟩
    have hsl : Sl (w.freeze ⟨g, cur.size, none⟩ 1) (.slice (some ⟨g, 0, none⟩) n c) m := by
      obtain ⟨q, cap, e, h1, h2, h3⟩ := hs
      refine ⟨q, cap, e, h1, h2, fun h0 => ?_⟩
      obtain ⟨g2, off, rfl, hg2, hr⟩ := h3 h0
      cases e
      refine ⟨g, 0, rfl, by rw [hchg.size]; exact hg2, fun j y hy => ?_⟩
      rw [cell_of_row _ g (0 + j) cur 5 _ hf, ← hr j y hy, cell_of_row w g (0 + j) cur 5 _ hg]
    unfold wpList
    rw [if_pos hw]
    left
    unfold Oper.wp execOp
    simp only [ho, Sem.run_bind, hx, hrun, Result.andThen_ok]
    exact h _ hsl hchg
end Go.Proofs.Ytlhamckpgijjmaa
namespace Go.Proofs.Ytlhamckpgijjmaa
open Go.RowKit
set_option linter.unusedVariables false

theorem Ow.lt {W : World} {base : Nat} {v : Value} {l : List Nat} (h : Ow W base v l) : ∀ k, v.ownBlock = some k → base ≤ k ∧ k < W.heap.size := World.ownsRow.lt h
theorem Ow.kept {W W' : World} {base : Nat} {v x : Value} {l : List Nat} (h : Ow W base v l) (hg : W.grownBy W' x.ownBlock) (hs : Sep v x) : Ow W' base v l := World.ownsRow.kept h hg hs.row
/-- Slices of bytes of the call's own, no two of one block. -/
structure Bag (W : World) (base : Nat) (vs : List Value) (ls : List (List Nat)) : Prop where
  len : vs.length = ls.length
  own : ∀ (j : Nat) (v : Value) (l : List Nat), vs[j]? = some v → ls[j]? = some l → Ow W base v l
  sep : ∀ (i j : Nat) (v u : Value), i ≠ j → vs[i]? = some v → vs[j]? = some u → Sep v u
theorem Bag.lt {W : World} {base : Nat} {vs : List Value} {ls : List (List Nat)} (h : Bag W base vs ls) {j : Nat} {v : Value} (hv : vs[j]? = some v) : ∀ k, v.ownBlock = some k → base ≤ k ∧ k < W.heap.size := by
  have hj : j < ls.length := by rw [← h.len]; exact (List.getElem?_eq_some_iff.1 hv).1
  exact (h.own j v _ hv (List.getElem?_eq_getElem hj)).lt
theorem Bag.keep {W W' : World} {base : Nat} {vs : List Value} {ls : List (List Nat)} (h : Bag W base vs ls) (hb : Below W.heap.size W W') : Bag W' base vs ls :=
  ⟨h.len, fun j v l hv hl => (h.own j v l hv hl).keep hb, h.sep⟩
theorem Bag.kept {W W' : World} {base : Nat} {vs : List Value} {ls : List (List Nat)} {x : Value} (h : Bag W base vs ls) (hg : W.grownBy W' x.ownBlock) (hs : ∀ (j : Nat) (v : Value), vs[j]? = some v → Sep v x) : Bag W' base vs ls :=
  ⟨h.len, fun j v l hv hl => (h.own j v l hv hl).kept hg (hs j v hv), h.sep⟩
theorem Bag.nil (W : World) (base : Nat) : Bag W base [] [] := ⟨rfl, fun j v l hv => by simp at hv, fun i j v u _ hv => by simp at hv⟩
theorem snoc_at {α : Type} {l : List α} {x y : α} {j : Nat} (h : (l ++ [x])[j]? = some y) : (j < l.length ∧ l[j]? = some y) ∨ (j = l.length ∧ y = x) := by
  by_cases c : j < l.length
  · rw [List.getElem?_append_left c] at h; exact .inl ⟨c, h⟩
  · rw [List.getElem?_append_right (by omega)] at h
    right
    have : j - l.length < [x].length := (List.getElem?_eq_some_iff.1 h).1
    simp at this
    have e : j - l.length = 0 := by omega
    rw [e] at h
    simp at h
    exact ⟨by omega, h.symm⟩
theorem Bag.snoc {W : World} {base : Nat} {vs : List Value} {ls : List (List Nat)} {u : Value} {f : List Nat} (h : Bag W base vs ls) (hu : Ow W base u f) (hs : ∀ (j : Nat) (v : Value), vs[j]? = some v → Sep v u) : Bag W base (vs ++ [u]) (ls ++ [f]) := by
  refine ⟨by simp [h.len], fun j v l hv hl => ?_, fun i j v x hij hv hx => ?_⟩
  · rcases snoc_at hv with ⟨h1, h2⟩ | ⟨h1, h2⟩ <;> rcases snoc_at hl with ⟨h3, h4⟩ | ⟨h3, h4⟩
    · exact h.own j v l h2 h4
    · have := h.len; omega
    · have := h.len; omega
    · subst h2; subst h4; exact hu
  · rcases snoc_at hv with ⟨h1, h2⟩ | ⟨h1, h2⟩ <;> rcases snoc_at hx with ⟨h3, h4⟩ | ⟨h3, h4⟩
    · exact h.sep i j v x hij h2 h4
    · subst h4; exact hs i v h2
    · subst h2; exact (hs j x h4).symm
    · omega
theorem Bag.ls {W : World} {base : Nat} {vs : List Value} {ls : List (List Nat)} (h : Bag W base vs ls) {v : Value} {b n : Nat} (ho : W.ownsRow b 59 1 v n vs) : Ls W v vs ls := by
  obtain ⟨h1, q, g, cap, rfl, hp, hg, _, _, hc, hm, hr, _⟩ := own_open ho (by omega)
  rw [Nat.mul_one] at h1
  subst h1
  exact ⟨h.len, ⟨q, cap, rfl, hc, hm, fun h0 => ⟨g, 0, hp h0, hg h0, fun j x hx => by rw [Nat.zero_add]; exact hr j x hx⟩⟩, fun j x l hx hl => (h.own j x l hx hl).sl⟩
section
variable {ops : Array Oper} {rest : List Oper} {o : Oper} {a : Act} {w : World} {Q : Exit → Act → World → Prop}
/-- append of one slice of bytes onto an own list of such: its run. -/
theorem app1_run (A : World) (ty : TypeId) {v u : Value} {n g c : Nat} {vs : List Value} (hown : w.ownsRow A.heap.size 59 1 v n vs) (hu : ∃ q m c, u = .slice q m c) (hcell : w.cell? ⟨g, 0, none⟩ = some u) (h63 : n + 1 ≤ 1000000) (hA : Below A.heap.size A w) :
    ∃ v' w', (Builtin.append_ #[65, 65] ty #[v, .slice (some ⟨g, 0, none⟩) 1 c]).run Try.prog w = .ok v' w' ∧ w'.ownsRow A.heap.size 59 1 v' (n + 1) (vs ++ [u]) ∧ v' ≠ .slice none 0 0 ∧ Below A.heap.size A w' ∧ w.grownBy w' v.ownBlock ∧ (v'.ownBlock = v.ownBlock ∨ v'.ownBlock = some w.heap.size) := by
  obtain ⟨i, hi, hz0, hz1, hz2⟩ := info_parts infoBytes
  obtain ⟨v', w', hr, h2, h3, h4, h5⟩ := run_append_own_at (P := Try.prog) w A.heap.size 65 ty 59 i _ 1 24 Try.underlying65 hi hz0 hz1 hz2 rfl (by omega) v n vs hown ⟨g, 0, none⟩ 1 c [u] rfl (fun j x hx => by
      match j, hx with
      | 0, hx => simp at hx; subst hx; rw [Addr.add_mid]; exact hcell) (fun x hx => by simp at hx; subst hx; obtain ⟨q, m, c, rfl⟩ := hu; rfl) (by unfold maxLen; omega) (by omega) hA.size
  refine ⟨v', w', hr, h2, fun e => by have := h4.1 e; omega, ?_, h3, h5⟩
  refine hA.grown h3 hA.size (fun r hr => ?_)
  rcases hown.2 with ⟨rfl, _⟩ | ⟨g', cap', cur', rfl, hbg, _⟩
  · cases hr
  · cases hr; exact hbg
theorem app1 (A : World) (hw : Region.wanted o (yielded ops a.tmps) = true) {s x : Operand} (ho : o.op = .call { callee := .builtin .append, args := #[s, x], argTypes := #[65, 65] })
    {v u : Value} {n g c : Nat} {vs : List Value} (hs : a.eval s = v) (hown : w.ownsRow A.heap.size 59 1 v n vs) (hx : a.eval x = .slice (some ⟨g, 0, none⟩) 1 c) (hu : ∃ q m c, u = .slice q m c) (hcell : w.cell? ⟨g, 0, none⟩ = some u) (h63 : n + 1 ≤ 1000000) (hA : Below A.heap.size A w)
    (h : ∀ v' w', w'.ownsRow A.heap.size 59 1 v' (n + 1) (vs ++ [u]) → v' ≠ .slice none 0 0 → Below A.heap.size A w' → w.grownBy w' v.ownBlock → (v'.ownBlock = v.ownBlock ∨ v'.ownBlock = some w.heap.size) → wpList Try.prog ops Q rest (a.put o.dst v') w') : wpList Try.prog ops Q (o :: rest) a w := by
  unfold wpList
  rw [if_pos hw]
  left
  obtain ⟨v', w', hr, h1, h2, h3, h4, h5⟩ := app1_run (c := c) A o.type hown hu hcell h63 hA
  unfold Oper.wp execOp
  simp only [ho, resolve, invoke, builtin, Sem.run_bind, Sem.run_pure, Result.andThen_ok, List.map_toArray, List.map_cons, List.map_nil, hs, hx, hr]
  exact h v' w' h1 h2 h3 h4 h5
end
/-- A list and its slices, each of its own. -/
structure Lis (W : World) (base : Nat) (v : Value) (vs : List Value) (ls : List (List Nat)) : Prop where
  row : W.ownsRow base 59 1 v ls.length vs
  bag : Bag W base vs ls
  sep : ∀ (j : Nat) (u : Value), vs[j]? = some u → Sep u v
theorem Lis.nil (W : World) (base : Nat) : Lis W base (.slice none 0 0) [] [] := ⟨World.ownsRow_nil W _ _ _, .nil W base, fun j u h => by simp at h⟩
/-- Behind an append of one more. -/
theorem Lis.snoc {W0 W W' : World} {base : Nat} {v v' u : Value} {vs : List Value} {ls : List (List Nat)} {f : List Nat} (h : Lis W0 base v vs ls) (hb : Below W0.heap.size W0 W) (hu : Ow W W0.heap.size u f) (hbs : base ≤ W0.heap.size)
    (hown : W'.ownsRow base 59 1 v' (ls.length + 1) (vs ++ [u])) (hg : W.grownBy W' v.ownBlock) (hat : v'.ownBlock = v.ownBlock ∨ v'.ownBlock = some W.heap.size) : Lis W' base v' (vs ++ [u]) (ls ++ [f]) := by
  have hvl : ∀ k, v.ownBlock = some k → k < W0.heap.size := fun k hk => (World.ownsRow.lt h.row k hk).2
  have huv : Sep u v := (sep_lt hvl (fun k hk => (hu.lt k hk).1)).symm
  have hsu : ∀ (j : Nat) (x : Value), vs[j]? = some x → Sep x u := fun j x hx => sep_lt (fun k hk => (h.bag.lt hx k hk).2) (fun k hk => (hu.lt k hk).1)
  have B := ((h.bag.keep hb).snoc (hu.less hbs) hsu)
  have hs2 : ∀ (j : Nat) (x : Value), (vs ++ [u])[j]? = some x → Sep x v := fun j x hx => by
    rcases snoc_at hx with ⟨_, h2⟩ | ⟨_, h2⟩
    · exact h.sep j x h2
    · subst h2; exact huv
  refine ⟨by rw [List.length_append]; exact hown, B.kept hg hs2, fun j x hx => ?_⟩
  rcases hat with e | e
  · intro k hk; rw [e]; exact hs2 j x hx k hk
  · intro k hk he
    rw [e] at he
    have := (B.lt hx k hk).2
    simp at he
    omega
theorem Lis.keep {W W' : World} {base : Nat} {v : Value} {vs : List Value} {ls : List (List Nat)} (h : Lis W base v vs ls) (hb : Below W.heap.size W W') : Lis W' base v vs ls := ⟨own_keep h.row hb, h.bag.keep hb, h.sep⟩
theorem Ow.form {W : World} {base : Nat} {v : Value} {l : List Nat} (h : Ow W base v l) : ∃ q cap, v = .slice q l.length cap := by
  obtain ⟨q, cap, e, _⟩ := h.sl
  exact ⟨q, cap, e⟩

/-- The number of a slot. -/
def numOf : Value → Nat
  | .int _ n => n.toNat
  | _ => 0
theorem spt_at (l : List Nat) (fs : List (List Nat)) (h : spt l = fs ++ spt (l.drop (spN fs))) (hok : insOK (l.drop (spN fs)) = true) :
    spt l = (fs ++ [insB (l.drop (spN fs))]) ++ spt (l.drop (spN (fs ++ [insB (l.drop (spN fs))]))) := by
  rw [h, spt_go hok, spN_snoc, List.drop_drop, List.append_assoc]; rfl
set_option maxHeartbeats 1000000 in
theorem split_any (v : Value) (l : List Nat) (w : World) (hv : Sl w v l) (hb : Byt l) (hl : l.length ≤ 1048576) :
    Calls Try.prog 36 #[v] w fun e w' => ∃ v' vs, e = .returned (.tuple #[v', .int .i64 ((spN (spt l) : Nat) : Int)]) ∧ Lis w' w.heap.size v' vs (spt l) ∧ Below w.heap.size w w' := by
  obtain ⟨q, cap, g, off, rfl, hc, hm, hp, hg, hr⟩ := hv.open
  clear hp hg hr
  generalize hn : l.length = n at *
  go_enter Try.func36, Try.ntmps36
  go_wp2_with fail
  go_loopw [4, 5] (fun x i wr => ∃ fs vs, i = .int .i64 ((spN fs : Nat) : Int) ∧ spN fs ≤ n ∧ spt l = fs ++ spt (l.drop (spN fs)) ∧ Lis wr w.heap.size x vs fs ∧ Below w.heap.size w wr) (fun _ i _ => n - numOf i)
  case atStart => exact ⟨[], [], rfl, by simp [spN], by simp [spN], Lis.nil w _, Below.refl _ _⟩
  case round =>
    obtain ⟨fs, vs, rfl, hat, HSP, HL, hbw⟩ := hrel
    have HSP' : Hid (spt l = fs ++ spt (l.drop (spN fs))) := HSP
    clear HSP
    have hvr := hv.keep hbw
    have hbd := hb.drop (spN fs)
    have hlen : (l.drop (spN fs)).length = n - spN fs := by rw [List.length_drop, hn]
    have hfl := spN_len fs
    cases hok : insOK (l.drop (spN fs)) with
    | false =>
      have HE : Hid (spt l = fs) := by show _ = _; rw [HSP'.out, spt_stop hok, List.append_nil]
      generalize hA : spN fs = A at *
      go_wp2_with (first
        | (refine slb_l rfl rfl A rfl rfl rfl hat hvr ?_; intro q2 s2)
        | (go_at_call 51; refine (inside_no _ _ _ s2 hbd hok).mono ?_; rintro e W2 ⟨rfl, hb2⟩))
      go_ret2
      rw [HE.out, hA]
      exact ⟨_, vs, rfl, HL.keep hb2, ab_trans hbw hb2⟩
    | true =>
      have HE := spt_at l fs HSP'.out hok
      have hile := insB_le hok
      have HE' : Hid (spt l = (fs ++ [insB (l.drop (spN fs))]) ++ spt (l.drop (spN (fs ++ [insB (l.drop (spN fs))])))) := HE
      clear HE
      have HN : Hid (spN (fs ++ [insB (l.drop (spN fs))]) = spN fs + (8 + (insB (l.drop (spN fs))).length)) := spN_snoc _ _
      rw [hlen] at hile
      generalize hA : spN fs = A at *
      generalize hF : insB (l.drop A) = F at *
      go_upto_region 4 with (first
        | (refine slb_l rfl rfl A rfl rfl rfl hat hvr ?_; intro q2 s2)
        | (go_at_call 51; refine (inside_ok _ _ _ s2 hbd hok).mono ?_; rw [hF]; rintro e W2 ⟨q3, cap3, rfl, s3, hb2⟩))
      have HL2 := HL.keep hb2
      have hbw2 := ab_trans hbw hb2
      clear HL hbw hvr s2 hbd hlen hok
      generalize hFl : F.length = m at *
      have HFm : Hid (F.length = m) := hFl
      clear hFl
      go_upto_region 6 with fail
      go_wp2_with (first
        | (go_at_call 50; refine (clone_any _ F _ s3 (by rw [HFm.out]; omega)).mono ?_; rintro e W3 ⟨u, rfl, hown3, hb3⟩; have HO3 := ow_of hown3; obtain ⟨q5, cap5, rfl⟩ := HO3.form)
        | (refine bs_ls rfl rfl [_] [F] (by simp only [List.map_toArray, List.map_cons, List.map_nil]; rfl) (bsl1 _ _ _ _) rfl (by decide) rfl (each1 HO3.sl) ?_; intro W4 hls4 hb4 hbk4)
        | (at_builtin; refine app1 w rfl rfl rfl (own_keep HL2.row (ab_trans hb3 hb4)) rfl ⟨_, _, _, rfl⟩ (hbk4.at (i := 0) rfl) (by omega) (ab_trans hbw2 (ab_trans hb3 hb4)) ?_; intro v6 W6 hown6 hnn6 hb6 hgr6 hat6))
      refine ⟨⟨fs ++ [F], vs ++ [_], ?_, ?_, HE'.out, HL2.snoc (ab_trans hb3 hb4) (HO3.keep hb4) hbw2.size hown6 hgr6 hat6, hb6⟩, ?_⟩
      · rw [HN.out]; congr 1
      · rw [HN.out]; omega
      · simp only [numOf]; omega
end Go.Proofs.Ytlhamckpgijjmaa
