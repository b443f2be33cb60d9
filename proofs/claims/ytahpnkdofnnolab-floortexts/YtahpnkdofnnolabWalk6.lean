/-
  What floor.Parse returns at every text; floor.tenfold, bits.Mul64 at ten, strings.TrimPrefix at a dash.
-/
import Derived.Test.YtahpnkdofnnolabWalk4
namespace Go.Proofs.Ytahpnkdofnnolab
open Go.RowKit
set_option linter.unusedVariables false

theorem head_size (s : ByteArray) (h : s.data.toList.head? = some 45) : 1 ≤ s.size := by
  obtain ⟨⟨l⟩⟩ := s
  cases l with
  | nil => simp at h
  | cons a l => simp [ByteArray.size]
theorem extract_list (s : ByteArray) (a b : Nat) : (s.extract a b).data.toList = (s.data.toList.drop a).take (b - a) := by
  obtain ⟨⟨l⟩⟩ := s
  simp [ByteArray.extract, ByteArray.copySlice, List.extract_eq_take_drop]
theorem head_extract (s : ByteArray) : (s.extract 0 1).toList = s.data.toList.take 1 := by
  rw [ByteArray.toList_eq, extract_list]; simp
theorem take_one (l : List UInt8) : (l.take 1 == [45]) = (l.head? == some 45) := by
  cases l with
  | nil => rfl
  | cons a l => simp

theorem and_lo (x : Int) (h0 : 0 ≤ x) (h1 : x ≤ 18446744073709551615) : bits .and .u64 x 4294967295 = x % 4294967296 := by
  obtain ⟨X, rfl⟩ := Int.eq_ofNat_of_zero_le h0
  have e2 : (4294967295 : Int) = ((2 ^ 32 - 1 : Nat) : Int) := by decide
  rw [e2, bits_and_u64_nat _ _ (by omega) (by omega), Nat.and_two_pow_sub_one_eq_mod]
  omega

set_option maxHeartbeats 400000 in
theorem mul64_10 (x : Int) (w : World) (h0 : 0 ≤ x) (h1 : x ≤ 18446744073709551615) :
    Calls Try.prog 28 #[.int .u64 x, .int .u64 10] w fun e w' => e = .returned (.tuple #[.int .u64 (x * 10 / 18446744073709551616), .int .u64 (x * 10 % 18446744073709551616)]) ∧ w' = w := by
  have a1 := and_lo x h0 h1
  have a2 := and_lo 10 (by omega) (by omega)
  have a3 := and_lo (x / 4294967296 * 10 + x % 4294967296 * 10 / 4294967296) (by omega) (by omega)
  go_enter Try.func28, Try.ntmps28
  go_wp2_with fail
  go_ret2
  exact ⟨ret_2 (by omega) (by rw [IntKind.wrap_u64]), rfl⟩

set_option maxHeartbeats 400000 in
theorem tenfold_any (ah al : Int) (w : World) (h0 : -9223372036854775808 ≤ ah) (h1 : ah ≤ 9223372036854775807) (l0 : 0 ≤ al) (l1 : al ≤ 18446744073709551615) :
    Calls Try.prog 16 #[.agg #[.int .i64 ah, .int .u64 al]] w fun e w' =>
      e = .returned (.agg #[.int .i64 (wh (10 * wv ah al)), .int .u64 (wl (10 * wv ah al))]) ∧ Below w.heap.size w w' := by
  have HF : Hid (wrap64 (IntKind.u64.wrap (IntKind.u64.wrap (IntKind.u64.wrap ah * 10) + al * 10 / 18446744073709551616)) = wh (10 * wv ah al) ∧ al * 10 % 18446744073709551616 = wl (10 * wv ah al)) := by
    have c1 : 10 * (ah * 18446744073709551616 + al) / 18446744073709551616 = 10 * ah + al * 10 / 18446744073709551616 := by omega
    have c2 : (ah % 18446744073709551616 * 10 % 18446744073709551616 + al * 10 / 18446744073709551616) % 18446744073709551616 = (10 * ah + al * 10 / 18446744073709551616) % 18446744073709551616 := by
      generalize al * 10 / 18446744073709551616 = g
      omega
    show _ ∧ _; simp only [IntKind.wrap_u64]; unfold wrap64 wh wl wv; rw [c1, c2]
    generalize 10 * ah + al * 10 / 18446744073709551616 = g
    omega
  go_enter Try.func16, Try.ntmps16
  go_wp2_with fail
  refine (mul64_10 _ _ l0 l1).mono ?_
  rintro e w1 ⟨rfl, rfl⟩
  go_wp2_with fail
  refine (wide_any _ _ _ (u64_wrap_bd _).1 (u64_wrap_bd _).2 (by omega) (by omega)).mono ?_
  rintro e w2 ⟨rfl, hb2⟩
  rw [HF.out.1, HF.out.2]
  obtain ⟨p0, p1, r0, r1, f0, f1, hz⟩ := blocks2 hb2
  go_wp2_with fail
  refine bodyPost_ret (v := .agg #[.int .i64 (wh (10 * wv ah al)), .int .u64 (wl (10 * wv ah al))]) (by simp [results, Try.results16, go_sem, r0, r1]) rfl ⟨rfl, ?_⟩
  repeat (first | exact Below.refl _ _ | refine ab_set ?_ (by dsimp only; omega) _ | refine ab_alloc ?_ _ | refine ab_trans ?_ hb2)

set_option maxHeartbeats 400000 in
theorem hasprefix_no (s : ByteArray) (w : World) (hs : s.size ≤ maxLen) (h : s.data.toList.head? ≠ some 45) :
    Calls Try.prog 31 #[.string s, .string ⟨#[45]⟩] w fun e w' => e = .returned (.bool false) ∧ w' = w := by
  unfold maxLen at hs
  have HX : Hid (((s.extract 0 1).toList == [45]) = false) := by
    show _ = _; rw [head_extract, take_one]; simpa using h
  go_enter Try.func31, Try.ntmps31
  go_wp2_with fail
  · go_ret
    exact ⟨ret_bool HX.out, rfl⟩
  · go_ret
    exact ⟨rfl, rfl⟩
set_option maxHeartbeats 400000 in
theorem hasprefix_yes (s : ByteArray) (w : World) (hs : s.size ≤ maxLen) (h : s.data.toList.head? = some 45) :
    Calls Try.prog 31 #[.string s, .string ⟨#[45]⟩] w fun e w' => e = .returned (.bool true) ∧ w' = w := by
  unfold maxLen at hs
  have h1 : 1 ≤ s.size := head_size s h
  have HX : Hid (((s.extract 0 1).toList == [45]) = true) := by
    show _ = _; rw [head_extract, take_one, h]; rfl
  go_enter Try.func31, Try.ntmps31
  go_wp2_with fail
  go_ret
  exact ⟨ret_bool HX.out, rfl⟩
set_option maxHeartbeats 400000 in
theorem trimlite_no (s : ByteArray) (w : World) (hs : s.size ≤ maxLen) (h : s.data.toList.head? ≠ some 45) :
    Calls Try.prog 25 #[.string s, .string ⟨#[45]⟩] w fun e w' => e = .returned (.string s) ∧ w' = w := by
  go_enter Try.func25, Try.ntmps25
  go_wp2_with fail
  refine (hasprefix_no s _ hs h).mono ?_
  rintro e w1 ⟨rfl, rfl⟩
  go_wp2_with fail
  go_ret
  exact ⟨rfl, rfl⟩
set_option maxHeartbeats 400000 in
theorem trimlite_yes (s : ByteArray) (w : World) (hs : s.size ≤ maxLen) (h : s.data.toList.head? = some 45) :
    Calls Try.prog 25 #[.string s, .string ⟨#[45]⟩] w fun e w' => e = .returned (.string (s.extract 1 s.size)) ∧ w' = w := by
  have h1 : 1 ≤ s.size := head_size s h
  go_enter Try.func25, Try.ntmps25
  go_wp2_with fail
  refine (hasprefix_yes s _ hs h).mono ?_
  rintro e w1 ⟨rfl, rfl⟩
  unfold maxLen at hs
  go_wp2_with fail
  go_ret
  exact ⟨rfl, rfl⟩
set_option maxHeartbeats 400000 in
theorem trim_no (s : ByteArray) (w : World) (hs : s.size ≤ maxLen) (h : s.data.toList.head? ≠ some 45) :
    Calls Try.prog 14 #[.string s, .string ⟨#[45]⟩] w fun e w' => e = .returned (.string s) ∧ w' = w := by
  go_enter Try.func14, Try.ntmps14
  go_wp2_with fail
  refine (trimlite_no s _ hs h).mono ?_
  rintro e w1 ⟨rfl, rfl⟩
  go_wp2_with fail
  go_ret
  exact ⟨rfl, rfl⟩
set_option maxHeartbeats 400000 in
theorem trim_yes (s : ByteArray) (w : World) (hs : s.size ≤ maxLen) (h : s.data.toList.head? = some 45) :
    Calls Try.prog 14 #[.string s, .string ⟨#[45]⟩] w fun e w' => e = .returned (.string (s.extract 1 s.size)) ∧ w' = w := by
  go_enter Try.func14, Try.ntmps14
  go_wp2_with fail
  refine (trimlite_yes s _ hs h).mono ?_
  rintro e w1 ⟨rfl, rfl⟩
  go_wp2_with fail
  go_ret
  exact ⟨rfl, rfl⟩

/-- What a row of digits comes to. -/
def pval (l : List UInt8) : Int := l.foldl (fun a b => 10 * a + ((b.toNat : Int) - 48)) 0
theorem pval_snoc (l : List UInt8) (b : UInt8) : pval (l ++ [b]) = 10 * pval l + ((b.toNat : Int) - 48) := by
  unfold pval; rw [List.foldl_append]; rfl

set_option maxHeartbeats 400000 in
theorem parse_long (s : ByteArray) (w : World) (hs : s.size ≤ maxLen) (h : 40 < s.size) :
    Calls Try.prog 8 #[.string s] w fun e w' => e = .returned (.tuple #[.agg #[.int .i64 0, .int .u64 0], .bool false]) ∧ Below w.heap.size w w' := by
  unfold maxLen at hs
  have h' : (40 : Int) < (s.size : Int) := by omega
  go_enter Try.func8, Try.ntmps8
  go_wp2_with fail
  exact bodyPost_ret (v := .tuple #[.agg #[.int .i64 0, .int .u64 0], .bool false]) (by simp [results, Try.results8, go_sem]) rfl ⟨rfl, (Below.refl _ _).alloc (Nat.le_refl _) _⟩

/-- While Parse reads digits: the result's box, and the number so far. -/
def Px (w : World) (x : Int) (wr : World) : Prop :=
  Below w.heap.size w wr ∧ w.heap.size + 1 < wr.heap.size ∧ wr.cell? ⟨w.heap.size, 0, none⟩ = some (.int .i64 0) ∧ wr.cell? ⟨w.heap.size, 1, none⟩ = some (.int .u64 0) ∧
  wr.frozen? ⟨w.heap.size, 0, none⟩ = false ∧ wr.frozen? ⟨w.heap.size, 1, none⟩ = false ∧
  wr.cell? ⟨w.heap.size + 1, 0, none⟩ = some (.int .i64 (wh x)) ∧ wr.cell? ⟨w.heap.size + 1, 1, none⟩ = some (.int .u64 (wl x)) ∧
  wr.frozen? ⟨w.heap.size + 1, 0, none⟩ = false ∧ wr.frozen? ⟨w.heap.size + 1, 1, none⟩ = false
theorem Px.keep {w wr w' : World} {x : Int} (h : Px w x wr) (hb : Below wr.heap.size wr w') : Px w x w' := by
  obtain ⟨h1, h2, h3, h4, h5, h6, h7, h8, h9, h10⟩ := h
  refine ⟨ab_trans h1 hb, Nat.lt_of_lt_of_le h2 hb.size, ?_, ?_, ?_, ?_, ?_, ?_, ?_, ?_⟩
  · rw [hb.cell (p := ⟨w.heap.size, 0, none⟩) (by dsimp only; omega)]; exact h3
  · rw [hb.cell (p := ⟨w.heap.size, 1, none⟩) (by dsimp only; omega)]; exact h4
  · rw [hb.frozen (p := ⟨w.heap.size, 0, none⟩) (by dsimp only; omega)]; exact h5
  · rw [hb.frozen (p := ⟨w.heap.size, 1, none⟩) (by dsimp only; omega)]; exact h6
  · rw [hb.cell (p := ⟨w.heap.size + 1, 0, none⟩) (by dsimp only; omega)]; exact h7
  · rw [hb.cell (p := ⟨w.heap.size + 1, 1, none⟩) (by dsimp only; omega)]; exact h8
  · rw [hb.frozen (p := ⟨w.heap.size + 1, 0, none⟩) (by dsimp only; omega)]; exact h9
  · rw [hb.frozen (p := ⟨w.heap.size + 1, 1, none⟩) (by dsimp only; omega)]; exact h10
theorem Px.set {w wr : World} {x : Int} (h : Px w x wr) (y : Int) : Px w y ((wr.setCell ⟨w.heap.size + 1, 0, none⟩ (.int .i64 (wh y))).setCell ⟨w.heap.size + 1, 1, none⟩ (.int .u64 (wl y))) := by
  obtain ⟨h1, h2, h3, h4, h5, h6, h7, h8, h9, h10⟩ := h
  refine ⟨ab_set (ab_set h1 (by dsimp only; omega) _) (by dsimp only; omega) _, by simpa using h2, ?_, ?_, by simpa using h5, by simpa using h6, ?_, ?_, by simpa using h9, by simpa using h10⟩
  · rw [World.cell?_setCell_other _ _ _ _ (by intro e; have := congrArg Addr.block e; dsimp only at this; omega), World.cell?_setCell_other _ _ _ _ (by intro e; have := congrArg Addr.block e; dsimp only at this; omega)]; exact h3
  · rw [World.cell?_setCell_other _ _ _ _ (by intro e; have := congrArg Addr.block e; dsimp only at this; omega), World.cell?_setCell_other _ _ _ _ (by intro e; have := congrArg Addr.block e; dsimp only at this; omega)]; exact h4
  · rw [World.cell?_setCell_other _ _ _ _ (by intro e; have := congrArg Addr.off e; dsimp only at this; omega)]; exact World.cell?_setCell_same _ _ _ h7
  · have : (wr.setCell ⟨w.heap.size + 1, 0, none⟩ (.int .i64 (wh y))).cell? ⟨w.heap.size + 1, 1, none⟩ = some (.int .u64 (wl x)) := by
      rw [World.cell?_setCell_other _ _ _ _ (by intro e; have := congrArg Addr.off e; dsimp only at this; omega)]; exact h8
    exact World.cell?_setCell_same _ _ _ this
theorem Px.start (w : World) (T : TypeId) : Px w 0 ((w.alloc (.cells #[.int .i64 0, .int .u64 0] T)).alloc (.cells #[.int .i64 0, .int .u64 0] T)) := by
  refine ⟨ab_alloc (ab_alloc (Below.refl _ _) _) _, by simp, ?_, ?_, ?_, ?_, ?_, ?_, ?_, ?_⟩ <;> first | rfl | (simp [go_sem]; done) | (simp [go_sem]; rfl)
theorem neg_w (x : Int) : wh (- wv (wh x) (wl x)) = wh (- x) ∧ wl (- wv (wh x) (wl x)) = wl (- x) := by
  obtain ⟨k, h⟩ := wv_back x
  rw [h, show - (x + 340282366920938463463374607431768211456 * k) = - x + 340282366920938463463374607431768211456 * (- k) by omega]
  exact wh_congr _ _
theorem sum_ten (x : Int) (c : Int) : wh (wv (wh (10 * wv (wh x) (wl x))) (wl (10 * wv (wh x) (wl x))) + wv (wh c) (wl c)) = wh (10 * x + c) ∧ wl (wv (wh (10 * wv (wh x) (wl x))) (wl (10 * wv (wh x) (wl x))) + wv (wh c) (wl c)) = wl (10 * x + c) := by
  obtain ⟨k1, e1⟩ := wv_back x
  obtain ⟨k2, e2⟩ := wv_back (10 * wv (wh x) (wl x))
  obtain ⟨k3, e3⟩ := wv_back c
  rw [e2, e3, e1, show 10 * (x + 340282366920938463463374607431768211456 * k1) + 340282366920938463463374607431768211456 * k2 + (c + 340282366920938463463374607431768211456 * k3) = 10 * x + c + 340282366920938463463374607431768211456 * (10 * k1 + k2 + k3) by omega]
  exact wh_congr _ _

/-- The number that Parse comes to, the text of it, and whether that is the text. -/
def pX (s d : ByteArray) : Int := if d.size < s.size then - pval d.data.toList else pval d.data.toList
def pB (s d : ByteArray) : Bool := (strOfNums (textOf (wv (wh (pX s d)) (wl (pX s d))))).toList == s.toList
def pH (s d : ByteArray) : Int := if pB s d then wh (pX s d) else 0
def pL (s d : ByteArray) : Int := if pB s d then wl (pX s d) else 0

theorem take_all (d : ByteArray) : d.data.toList.take d.size = d.data.toList := List.take_of_length_le (Nat.le_of_eq (by rw [Array.length_toList]; rfl))
theorem take_next (d : ByteArray) (k : Nat) (h : k < d.size) : d.data.toList.take (k + 1) = d.data.toList.take k ++ [d[k]] := by
  rw [List.take_succ_eq_append_getElem (by rw [Array.length_toList]; exact h)]; rfl
theorem ret_pno (s d : ByteArray) (h : pB s d = false) : Ending.returned (.tuple #[.agg #[.int .i64 0, .int .u64 0], .bool false]) = .returned (.tuple #[.agg #[.int .i64 (pH s d), .int .u64 (pL s d)], .bool (pB s d)]) := by
  unfold pH pL; rw [h]; rfl
theorem ret_pyes (s d : ByteArray) (h : pB s d = true) : Ending.returned (.tuple #[.agg #[.int .i64 (wh (pX s d)), .int .u64 (wl (pX s d))], .bool true]) = .returned (.tuple #[.agg #[.int .i64 (pH s d), .int .u64 (pL s d)], .bool (pB s d)]) := by
  unfold pH pL; rw [h]; rfl

set_option maxHeartbeats 1000000 in
theorem parse_core (s d : ByteArray) (w : World) (hs : s.size ≤ 40) (hd : d.size ≤ s.size)
    (ht : ∀ W, Calls Try.prog 14 #[.string s, .string ⟨#[45]⟩] W fun e w' => e = .returned (.string d) ∧ w' = W) :
    Calls Try.prog 8 #[.string s] w fun e w' => e = .returned (.tuple #[.agg #[.int .i64 (pH s d), .int .u64 (pL s d)], .bool (pB s d)]) ∧ Below w.heap.size w w' := by
  have h' : ¬ (40 : Int) < (s.size : Int) := by omega
  have HT : Hid (∀ W, Calls Try.prog 14 #[.string s, .string ⟨#[45]⟩] W fun e w' => e = .returned (.string d) ∧ w' = W) := ht
  clear ht
  go_enter Try.func8, Try.ntmps8
  go_wp2_with fail
  refine (HT.out _).mono ?_
  rintro e w1 ⟨rfl, rfl⟩
  go_wp2_with fail
  have hP := Px.start w 24
  go_loopw [15] (fun i wr => ∃ k : Nat, k ≤ d.size ∧ i = .int .i64 (k : Int) ∧ Px w (pval (d.data.toList.take k)) wr) (fun i _ => d.size - (intOf i).toNat)
  case atStart => exact ⟨0, Nat.zero_le _, rfl, hP⟩
  case round =>
    obtain ⟨k, hk, rfl, HP⟩ := hrel
    clear hP
    by_cases hlt : k < d.size
    · have hlt' : (k : Int) < (d.size : Int) := by omega
      have HP' := HP
      obtain ⟨h1, h2, h3, h4, h5, h6, h7, h8, h9, h10⟩ := HP
      have hby : (0 : Int) ≤ (d[k].toNat : Int) ∧ (d[k].toNat : Int) ≤ 255 := by have := d[k].toNat_lt; omega
      have HW : Hid (IntKind.i64.wrap (IntKind.i64.wrap (d[k].toNat : Int) - 48) = (d[k].toNat : Int) - 48) := by
        show _ = _; rw [wrap_i64, wrap_i64]; omega
      have HN : Hid (wh (wv (wh (10 * wv (wh (pval (d.data.toList.take k))) (wl (pval (d.data.toList.take k))))) (wl (10 * wv (wh (pval (d.data.toList.take k))) (wl (pval (d.data.toList.take k))))) + wv (wh ((d[k].toNat : Int) - 48)) (wl ((d[k].toNat : Int) - 48))) = wh (pval (d.data.toList.take (k + 1))) ∧ wl (wv (wh (10 * wv (wh (pval (d.data.toList.take k))) (wl (pval (d.data.toList.take k))))) (wl (10 * wv (wh (pval (d.data.toList.take k))) (wl (pval (d.data.toList.take k))))) + wv (wh ((d[k].toNat : Int) - 48)) (wl ((d[k].toNat : Int) - 48))) = wl (pval (d.data.toList.take (k + 1)))) := by
        rw [take_next d k hlt, pval_snoc]; exact sum_ten _ _
      generalize hx : pval (d.data.toList.take k) = X at *
      generalize hy : pval (d.data.toList.take (k + 1)) = Y at *
      have HY : Hid (pval (d.data.toList.take (k + 1)) = Y) := hy
      clear hx hy
      go_wp2_with fail
      go_region_with (first
          | (go_at_call 16; refine (tenfold_any _ _ _ (wh_bd _).1 (wh_bd _).2 (wl_bd _).1 (wl_bd _).2).mono ?_; rintro e w1 ⟨rfl, hb1⟩; have HP1 := HP'.keep (undrew hb1); have t1 := HP1.2.2.2.2.2.2.1; have t2 := HP1.2.2.2.2.2.2.2.1)
          | (go_at_call 17; rw [HW.out]; refine (of_any _ _ (by omega) (by omega)).mono ?_; rintro e w2 ⟨rfl, hb2⟩; have HP2 := HP1.keep hb2; have t3 := HP2.2.2.2.2.2.2.1; have t4 := HP2.2.2.2.2.2.2.2.1)
          | (go_at_call 15; refine (add_any _ _ _ _ _ (wh_bd _).1 (wh_bd _).2 (wl_bd _).1 (wl_bd _).2 (wh_bd _).1 (wh_bd _).2 (wl_bd _).1 (wl_bd _).2).mono ?_; rintro e w3 ⟨rfl, hb3⟩; rw [HN.out.1, HN.out.2]; have HP3 := HP2.keep hb3; have t5 := HP3.2.2.2.2.2.2.1; have t6 := HP3.2.2.2.2.2.2.2.1; have t7 := HP3.2.2.2.2.2.2.2.2.1; have t8 := HP3.2.2.2.2.2.2.2.2.2))
      all_goals
        go_wp2_with fail
        go_roundw
        case rel => exact ⟨k + 1, by omega, by go_num, by rw [HY.out]; exact HP3.set Y⟩
        case measure => simp [intOf]; omega
    · obtain rfl : k = d.size := by omega
      rw [take_all] at HP
      by_cases c : d.size < s.size
      · have HX : Hid (pX s d = - pval d.data.toList) := by show _ = _; unfold pX; rw [if_pos c]
        have HP' := HP
        obtain ⟨h1, h2, h3, h4, h5, h6, h7, h8, h9, h10⟩ := HP
        have c' : (d.size : Int) < (s.size : Int) := by omega
        go_wp2_with fail
        refine (neg_any _ _ _ (wh_bd _).1 (wh_bd _).2 (wl_bd _).1 (wl_bd _).2).mono ?_
        rintro e w1 ⟨rfl, hb1⟩
        rw [(neg_w _).1, (neg_w _).2, ← HX.out]
        have HP1 := HP'.keep hb1
        clear h1 h2 h3 h4 h5 h6 h7 h8 h9 h10
        have HP1' := HP1
        obtain ⟨h1, h2, h3, h4, h5, h6, h7, h8, h9, h10⟩ := HP1
        have HP3 := HP1'.set (pX s d)
        go_wp2_with fail
        refine (text_any _ _ _ (wh_bd _).1 (wh_bd _).2 (wl_bd _).1 (wl_bd _).2).mono ?_
        rintro e w2 ⟨rfl, hb2⟩
        have HP2 := HP3.keep hb2
        clear h1 h2 h3 h4 h5 h6 h7 h8 h9 h10
        obtain ⟨h1, h2, h3, h4, h5, h6, h7, h8, h9, h10⟩ := HP2
        cases hB : pB s d
        · have hB' : ((strOfNums (textOf (wv (wh (pX s d)) (wl (pX s d))))).toList == s.toList) = false := hB
          have HB : Hid (pB s d = false) := hB
          clear hB
          go_wp2_with fail
          refine bodyPost_ret (v := .tuple #[.agg #[.int .i64 0, .int .u64 0], .bool false]) (by simp [results, Try.results8, go_sem, h3, h4]) rfl ⟨by simpa using ret_pno s d HB.out, ?_⟩
          repeat (first | exact h1 | refine ab_set ?_ (by dsimp only; omega) _)
        · have hB' : ((strOfNums (textOf (wv (wh (pX s d)) (wl (pX s d))))).toList == s.toList) = true := hB
          have HB : Hid (pB s d = true) := hB
          clear hB
          go_wp2_with fail
          refine bodyPost_ret (v := .tuple #[.agg #[.int .i64 (wh (pX s d)), .int .u64 (wl (pX s d))], .bool true]) (by simp [results, Try.results8, go_sem, h3, h4]) rfl ⟨by simpa using ret_pyes s d HB.out, ?_⟩
          repeat (first | exact h1 | refine ab_set ?_ (by dsimp only; omega) _)
      · have HX : Hid (pX s d = pval d.data.toList) := by show _ = _; unfold pX; rw [if_neg c]
        have HP' := HP
        obtain ⟨h1, h2, h3, h4, h5, h6, h7, h8, h9, h10⟩ := HP
        have c' : ¬ (d.size : Int) < (s.size : Int) := by omega
        go_wp2_with fail
        refine (text_any _ _ _ (wh_bd _).1 (wh_bd _).2 (wl_bd _).1 (wl_bd _).2).mono ?_
        rintro e w2 ⟨rfl, hb2⟩
        have HP2 := HP'.keep hb2
        clear h1 h2 h3 h4 h5 h6 h7 h8 h9 h10
        obtain ⟨h1, h2, h3, h4, h5, h6, h7, h8, h9, h10⟩ := HP2
        rw [← HX.out] at *
        cases hB : pB s d
        · have hB' : ((strOfNums (textOf (wv (wh (pX s d)) (wl (pX s d))))).toList == s.toList) = false := hB
          have HB : Hid (pB s d = false) := hB
          clear hB
          go_wp2_with fail
          refine bodyPost_ret (v := .tuple #[.agg #[.int .i64 0, .int .u64 0], .bool false]) (by simp [results, Try.results8, go_sem, h3, h4]) rfl ⟨by simpa using ret_pno s d HB.out, ?_⟩
          repeat (first | exact h1 | refine ab_set ?_ (by dsimp only; omega) _)
        · have hB' : ((strOfNums (textOf (wv (wh (pX s d)) (wl (pX s d))))).toList == s.toList) = true := hB
          have HB : Hid (pB s d = true) := hB
          clear hB
          go_wp2_with fail
          refine bodyPost_ret (v := .tuple #[.agg #[.int .i64 (wh (pX s d)), .int .u64 (wl (pX s d))], .bool true]) (by simp [results, Try.results8, go_sem, h3, h4]) rfl ⟨by simpa using ret_pyes s d HB.out, ?_⟩
          repeat (first | exact h1 | refine ab_set ?_ (by dsimp only; omega) _)

/-- What stands behind a dash. -/
def tailOf (s : ByteArray) : ByteArray := if s.data.toList.head? = some 45 then s.extract 1 s.size else s
theorem parse_short (s : ByteArray) (w : World) (hs : s.size ≤ 40) :
    Calls Try.prog 8 #[.string s] w fun e w' => e = .returned (.tuple #[.agg #[.int .i64 (pH s (tailOf s)), .int .u64 (pL s (tailOf s))], .bool (pB s (tailOf s))]) ∧ Below w.heap.size w w' := by
  unfold tailOf
  by_cases h : s.data.toList.head? = some 45
  · rw [if_pos h]
    exact parse_core s _ w hs (by rw [ByteArray.size_extract]; omega) (fun W => trim_yes s W (by unfold maxLen; omega) h)
  · rw [if_neg h]
    exact parse_core s _ w hs (Nat.le_refl _) (fun W => trim_no s W (by unfold maxLen; omega) h)
end Go.Proofs.Ytahpnkdofnnolab
