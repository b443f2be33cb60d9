/-
  What the document's Parse returns at every text.
-/
import Derived.Test.YtahpnkdofnnolabWalk12
import Derived.Laws.BitsAllLaws
namespace Go.Proofs.Ytahpnkdofnnolab
open Go.RowKit
set_option linter.unusedVariables false

theorem dl_digit (N k : Nat) : ∀ x ∈ dl N k, 48 ≤ x ∧ x ≤ 57 := by
  intro x hx; unfold dl at hx; simp only [List.mem_map, List.mem_range] at hx
  obtain ⟨i, _, rfl⟩ := hx; omega
/-- In the text of a number each byte is a digit, but for a dash at the head. -/
theorem text_bytes (x : Int) (i : Nat) (b : UInt8) (h : (toB (textOf x))[i]? = some b) : (48 ≤ b.toNat ∧ b.toNat ≤ 57) ∨ (i = 0 ∧ b = 45) := by
  have key : ∀ (l : List Int), (∀ y ∈ l, 48 ≤ y ∧ y ≤ 57) → ∀ (i : Nat) (b : UInt8), (toB l)[i]? = some b → 48 ≤ b.toNat ∧ b.toNat ≤ 57 := by
    intro l hl i b h
    unfold toB at h
    rw [List.getElem?_map] at h
    cases e : l[i]? with
    | none => rw [e] at h; cases h
    | some y =>
      rw [e] at h
      have hy := hl y (List.mem_of_getElem? e)
      simp only [Option.map_some, Option.some.injEq] at h
      subst h
      rw [UInt8.toNat_ofNat']; omega
  by_cases z : x = 0
  · subst z; exact .inl (key _ (by intro y hy; simp [textOf] at hy; omega) i b h)
  · rw [textOf_nz x z] at h
    by_cases s : x < 0
    · rw [if_pos s] at h
      cases i with
      | zero => right; exact ⟨rfl, by simpa [toB] using h.symm⟩
      | succ i => left; exact key _ (dl_digit _ _) i b (by simpa [toB] using h)
    · rw [if_neg s] at h
      exact .inl (key _ (dl_digit _ _) i b (by simpa using h))
theorem pB_bad (s d : ByteArray) (i : Nat) (h : i < s.size) (h1 : ¬ (48 ≤ s[i].toNat ∧ s[i].toNat ≤ 57)) (h2 : ¬ (i = 0 ∧ s[i] = 45)) : pB s d = false := by
  cases e : pB s d with
  | false => rfl
  | true =>
    exfalso
    unfold pB at e
    have e := eq_of_beq e
    rw [ByteArray.toList_eq, ByteArray.toList_eq] at e
    have hg : s.data.toList[i]? = some s[i] := by
      rw [List.getElem?_eq_getElem (by rw [Array.length_toList]; exact h)]; rfl
    rw [← e] at hg
    rcases text_bytes _ i _ hg with a | a
    · exact h1 a
    · exact h2 a
theorem pB_empty (s d : ByteArray) (h : s.size = 0) : pB s d = false := by
  cases e : pB s d with
  | false => rfl
  | true =>
    exfalso
    unfold pB at e
    have e := eq_of_beq e
    rw [ByteArray.toList_eq, ByteArray.toList_eq] at e
    have hl : s.data.toList = [] := List.eq_nil_of_length_eq_zero (by rw [Array.length_toList]; exact h)
    rw [hl] at e
    have : textOf (wv (wh (pX s d)) (wl (pX s d))) = [] := by
      have : (toB (textOf (wv (wh (pX s d)) (wl (pX s d))))) = [] := e
      simpa [toB] using this
    generalize wv (wh (pX s d)) (wl (pX s d)) = x at this
    by_cases z : x = 0
    · subst z; simp [textOf] at this
    · rw [textOf_nz x z] at this
      have hn : 1 ≤ nd 40 x.natAbs := by
        show 1 ≤ nd (39 + 1) x.natAbs
        rw [nd, if_neg (by omega)]; omega
      have := congrArg List.length this
      rw [List.length_append, dl_len] at this; simp at this; omega

set_option maxHeartbeats 1000000 in
theorem rparse_out (s : ByteArray) (w : World) (hs : s.size ≤ maxLen) (h : s.size = 0 ∨ 40 < s.size) :
    Calls Try.prog 10 #[.string s] w fun e w' => e = .returned (.tuple #[.agg #[.int .i64 0, .int .u64 0], .bool false]) ∧ Below w.heap.size w w' := by
  unfold maxLen at hs
  rcases h with h | h
  · have h1 : ((s.size : Int) == 0) = true := by simp [h]
    go_enter Try.func10, Try.ntmps10
    go_wp2_with fail
    exact bodyPost_ret (v := .tuple #[.agg #[.int .i64 0, .int .u64 0], .bool false]) (by simp [results, Try.results10, go_sem]) rfl ⟨rfl, (Below.refl _ _).alloc (Nat.le_refl _) _⟩
  · have h1 : ((s.size : Int) == 0) = false := beq_eq_false_iff_ne.2 (by omega)
    have h2 : (40 : Int) < (s.size : Int) := by omega
    go_enter Try.func10, Try.ntmps10
    go_wp2_with fail
    exact bodyPost_ret (v := .tuple #[.agg #[.int .i64 0, .int .u64 0], .bool false]) (by simp [results, Try.results10, go_sem]) rfl ⟨rfl, (Below.refl _ _).alloc (Nat.le_refl _) _⟩

/-- What the first k bytes come to, a dash at the head left out. -/
def pacc (s : ByteArray) (k : Nat) : Int := if s.data.toList.head? = some 45 then pval ((s.data.toList.take k).drop 1) else pval (s.data.toList.take k)
theorem pacc_zero (s : ByteArray) : pacc s 0 = 0 := by unfold pacc; split <;> simp [pval]
theorem pacc_dash (s : ByteArray) (h : s.data.toList.head? = some 45) : pacc s 1 = 0 := by
  unfold pacc; rw [if_pos h]
  have : (s.data.toList.take 1).drop 1 = [] := List.eq_nil_of_length_eq_zero (by rw [List.length_drop, List.length_take]; omega)
  rw [this]; rfl
theorem pacc_next (s : ByteArray) (k : Nat) (hk : k < s.size) (h : s.data.toList.head? = some 45 → 1 ≤ k) : pacc s (k + 1) = pacc s k * 10 + ((s[k].toNat : Int) - 48) := by
  unfold pacc
  rw [take_next s k hk]
  split
  · rename_i d
    have := h d
    rw [List.drop_append_of_le_length (by rw [List.length_take, Array.length_toList]; have : s.data.size = s.size := rfl; omega), pval_snoc]; omega
  · rw [pval_snoc]; omega
theorem head_at (s : ByteArray) (h : 0 < s.size) : s.data.toList.head? = some s[0] := by
  rw [List.head?_eq_getElem?, List.getElem?_eq_getElem (by rw [Array.length_toList]; exact h)]; rfl
theorem pacc_all_dash (s : ByteArray) (h : s.data.toList.head? = some 45) : pX s (tailOf s) = - pacc s s.size := by
  have h1 := head_size s h
  unfold tailOf pacc; rw [if_pos h, if_pos h, take_all]
  unfold pX
  rw [if_pos (by rw [ByteArray.size_extract]; omega), extract_list, List.take_of_length_le (by rw [List.length_drop, Array.length_toList]; have : s.data.size = s.size := rfl; omega)]
theorem pacc_all (s : ByteArray) (h : ¬ s.data.toList.head? = some 45) : pX s (tailOf s) = pacc s s.size := by
  unfold tailOf pacc; rw [if_neg h, if_neg h, take_all]
  unfold pX; rw [if_neg (by omega)]
theorem times_ten (x c : Int) : wh (wv (wh x) (wl x) * 10 + c) = wh (x * 10 + c) ∧ wl (wv (wh x) (wl x) * 10 + c) = wl (x * 10 + c) := by
  obtain ⟨k, h⟩ := wv_back x
  rw [h, show (x + 340282366920938463463374607431768211456 * k) * 10 + c = x * 10 + c + 340282366920938463463374607431768211456 * (k * 10) by omega]
  exact wh_congr _ _

set_option maxHeartbeats 2000000 in
theorem rparse_in (s : ByteArray) (w : World) (hs0 : 1 ≤ s.size) (hs : s.size ≤ 40) :
    Calls Try.prog 10 #[.string s] w fun e w' => e = .returned (.tuple #[.agg #[.int .i64 (pH s (tailOf s)), .int .u64 (pL s (tailOf s))], .bool (pB s (tailOf s))]) ∧ Below w.heap.size w w' := by
  have h1 : ((s.size : Int) == 0) = false := beq_eq_false_iff_ne.2 (by omega)
  have h2 : ¬ (40 : Int) < (s.size : Int) := by omega
  go_enter Try.func10, Try.ntmps10
  go_wp2_with fail
  have hP0 := Px.start w 24
  have hP : Px w (pacc s 0) ((w.alloc (.cells #[.int .i64 0, .int .u64 0] 24)).alloc (.cells #[.int .i64 0, .int .u64 0] 24)) := by rw [pacc_zero s]; exact hP0
  clear hP0
  go_loopw [5] (fun i wr => ∃ k : Nat, k ≤ s.size ∧ i = .int .i64 (k : Int) ∧ Px w (pacc s k) wr) (fun i _ => s.size - (intOf i).toNat)
  case atStart => exact ⟨0, Nat.zero_le _, rfl, hP⟩
  case round =>
    obtain ⟨k, hk, rfl, HP⟩ := hrel
    clear hP
    by_cases hlt : k < s.size
    · have hlt' : (k : Int) < (s.size : Int) := by omega
      have hby : (0 : Int) ≤ (s[k].toNat : Int) ∧ (s[k].toNat : Int) ≤ 255 := by have := s[k].toNat_lt; omega
      by_cases hd : k = 0 ∧ s.data.toList.head? = some 45
      · obtain ⟨rfl, hd⟩ := hd
        have hc0 : ((s[0].toNat : Int) == 45) = true := by
          rw [head_at s (by omega)] at hd
          have : s[0] = 45 := by simpa using hd
          rw [this]; rfl
        have HP1 : Px w (pacc s 1) wr := by rw [pacc_dash s hd, ← pacc_zero s]; exact HP
        have HD : Hid (s.data.toList.head? = some 45) := hd
        clear hd HP
        go_wp2_with fail
        go_roundw
        case rel => exact ⟨1, by omega, by go_num, HP1⟩
        case measure => simp [intOf]; omega
      · have hnd : ¬ (k = 0 ∧ s[k] = 45) := by
          rintro ⟨rfl, e⟩
          exact hd ⟨rfl, by rw [head_at s (by omega), e]⟩
        have hnk : s.data.toList.head? = some 45 → 1 ≤ k := by
          intro e
          rcases Nat.eq_zero_or_pos k with z | z
          · exact absurd ⟨z, e⟩ hd
          · exact z
        have hAB : (((k : Int) == 0) = true ∧ ((s[k].toNat : Int) == 45) = false) ∨ ((k : Int) == 0) = false := by
          by_cases z : k = 0
          · left
            refine ⟨by simp [z], beq_eq_false_iff_ne.2 ?_⟩
            intro e
            exact hnd ⟨z, UInt8.toNat_inj.1 (by show s[k].toNat = 45; omega)⟩
          · right; exact beq_eq_false_iff_ne.2 (by omega)
        clear hd
        rcases hAB with ⟨hA, hB⟩ | hA
        all_goals
          by_cases d1 : (s[k].toNat : Int) < 48
          · have HB : Hid (pB s (tailOf s) = false) := pB_bad s (tailOf s) k hlt (by omega) hnd
            clear hnd hnk
            obtain ⟨g1, g2, g3, g4, g5, g6, g7, g8, g9, g10⟩ := HP
            go_wp2_with fail
            refine bodyPost_ret (v := .tuple #[.agg #[.int .i64 0, .int .u64 0], .bool false]) (by simp [results, Try.results10, go_sem, g3, g4]) rfl ⟨by simpa using ret_pno s (tailOf s) HB.out, ?_⟩
            repeat (first | exact g1 | refine ab_set ?_ (by dsimp only; omega) _)
          · by_cases d2 : 57 < (s[k].toNat : Int)
            · have HB : Hid (pB s (tailOf s) = false) := pB_bad s (tailOf s) k hlt (by omega) hnd
              clear hnd hnk
              obtain ⟨g1, g2, g3, g4, g5, g6, g7, g8, g9, g10⟩ := HP
              go_wp2_with fail
              refine bodyPost_ret (v := .tuple #[.agg #[.int .i64 0, .int .u64 0], .bool false]) (by simp [results, Try.results10, go_sem, g3, g4]) rfl ⟨by simpa using ret_pno s (tailOf s) HB.out, ?_⟩
              repeat (first | exact g1 | refine ab_set ?_ (by dsimp only; omega) _)
            · have HN : Hid (_ = _) := pacc_next s k hlt hnk
              have HT : Hid (_ ∧ _) := times_ten (pacc s k) ((s[k].toNat : Int) - 48)
              have HW : Hid (IntKind.i64.wrap (IntKind.u8.wrap ((s[k].toNat : Int) - 48)) = (s[k].toNat : Int) - 48) := by
                show _ = _; rw [IntKind.wrap_u8', wrap_i64]; omega
              have HP' := HP
              obtain ⟨g1, g2, g3, g4, g5, g6, g7, g8, g9, g10⟩ := HP
              clear hnd hnk
              generalize hx : pacc s k = X at *
              clear hx
              go_wp2_with fail
              go_region_with (first
                | (go_at_call 21; rw [HW.out]; refine (rtimes_any _ _ _ _ _ (wh_bd _).1 (wh_bd _).2 (wl_bd _).1 (wl_bd _).2 (by omega) (by omega)).mono ?_; rintro e w1 ⟨rfl, hb1⟩; rw [HT.out.1, HT.out.2, ← HN.out]; have HP1 := HP'.keep (undrew hb1); have t5 := HP1.2.2.2.2.2.2.1; have t6 := HP1.2.2.2.2.2.2.2.1; have t7 := HP1.2.2.2.2.2.2.2.2.1; have t8 := HP1.2.2.2.2.2.2.2.2.2))
              all_goals
                go_wp2_with fail
                go_roundw
                case rel => exact ⟨k + 1, by omega, by go_num, HP1.set (pacc s (k + 1))⟩
                case measure => simp [intOf]; omega
    · obtain rfl : k = s.size := by omega
      have hs0' : (0 : Int) < (s.size : Int) := by omega
      by_cases c : s.data.toList.head? = some 45
      · have HX : Hid (pX s (tailOf s) = - pacc s s.size) := pacc_all_dash s c
        have hc0 : ((s[0].toNat : Int) == 45) = true := by
          rw [head_at s (by omega)] at c
          have : s[0] = 45 := by simpa using c
          rw [this]; rfl
        have HP' := HP
        obtain ⟨g1, g2, g3, g4, g5, g6, g7, g8, g9, g10⟩ := HP
        generalize pacc s s.size = X at *
        generalize hdd : tailOf s = d at *
        have HD : Hid (tailOf s = d) := hdd
        clear hdd
        clear c
        go_wp2_with fail
        refine (rneg_any _ _ _ (wh_bd _).1 (wh_bd _).2 (wl_bd _).1 (wl_bd _).2).mono ?_
        rintro e w1 ⟨rfl, hb1⟩
        rw [(neg_w _).1, (neg_w _).2, ← HX.out]
        have HP1 := HP'.keep hb1
        clear g1 g2 g3 g4 g5 g6 g7 g8 g9 g10
        have HP1' := HP1
        obtain ⟨g1, g2, g3, g4, g5, g6, g7, g8, g9, g10⟩ := HP1
        have HP3 := HP1'.set (pX s d)
        go_wp2_with fail
        refine (rtext_any _ _ _ (wh_bd _).1 (wh_bd _).2 (wl_bd _).1 (wl_bd _).2).mono ?_
        rintro e w2 ⟨rfl, hb2⟩
        have HP2 := HP3.keep hb2
        clear g1 g2 g3 g4 g5 g6 g7 g8 g9 g10
        obtain ⟨g1, g2, g3, g4, g5, g6, g7, g8, g9, g10⟩ := HP2
        cases hB : pB s d
        · have hB' : ((strOfNums (textOf (wv (wh (pX s d)) (wl (pX s d))))).toList == s.toList) = false := hB
          have HB : Hid (pB s d = false) := hB
          clear hB
          go_wp2_with fail
          refine bodyPost_ret (v := .tuple #[.agg #[.int .i64 0, .int .u64 0], .bool false]) (by simp [results, Try.results10, go_sem, g3, g4]) rfl ⟨by rw [HD.out]; simpa using ret_pno s d HB.out, ?_⟩
          repeat (first | exact g1 | refine ab_set ?_ (by dsimp only; omega) _)
        · have hB' : ((strOfNums (textOf (wv (wh (pX s d)) (wl (pX s d))))).toList == s.toList) = true := hB
          have HB : Hid (pB s d = true) := hB
          clear hB
          go_wp2_with fail
          refine bodyPost_ret (v := .tuple #[.agg #[.int .i64 (wh (pX s d)), .int .u64 (wl (pX s d))], .bool true]) (by simp [results, Try.results10, go_sem, g3, g4]) rfl ⟨by rw [HD.out]; simpa using ret_pyes s d HB.out, ?_⟩
          repeat (first | exact g1 | refine ab_set ?_ (by dsimp only; omega) _)
      · have HX : Hid (pX s (tailOf s) = pacc s s.size) := pacc_all s c
        have hc0 : ((s[0].toNat : Int) == 45) = false := by
          rw [head_at s (by omega)] at c
          refine beq_eq_false_iff_ne.2 ?_
          intro e
          exact c (congrArg some (UInt8.toNat_inj.1 (by show s[0].toNat = 45; omega)))
        have HP' := HP
        obtain ⟨g1, g2, g3, g4, g5, g6, g7, g8, g9, g10⟩ := HP
        generalize pacc s s.size = X at *
        generalize hdd : tailOf s = d at *
        have HD : Hid (tailOf s = d) := hdd
        clear hdd
        clear c
        go_wp2_with fail
        refine (rtext_any _ _ _ (wh_bd _).1 (wh_bd _).2 (wl_bd _).1 (wl_bd _).2).mono ?_
        rintro e w2 ⟨rfl, hb2⟩
        have HP2 := HP'.keep hb2
        clear g1 g2 g3 g4 g5 g6 g7 g8 g9 g10
        obtain ⟨g1, g2, g3, g4, g5, g6, g7, g8, g9, g10⟩ := HP2
        rw [← HX.out] at *
        cases hB : pB s d
        · have hB' : ((strOfNums (textOf (wv (wh (pX s d)) (wl (pX s d))))).toList == s.toList) = false := hB
          have HB : Hid (pB s d = false) := hB
          clear hB
          go_wp2_with fail
          refine bodyPost_ret (v := .tuple #[.agg #[.int .i64 0, .int .u64 0], .bool false]) (by simp [results, Try.results10, go_sem, g3, g4]) rfl ⟨by rw [HD.out]; simpa using ret_pno s d HB.out, ?_⟩
          repeat (first | exact g1 | refine ab_set ?_ (by dsimp only; omega) _)
        · have hB' : ((strOfNums (textOf (wv (wh (pX s d)) (wl (pX s d))))).toList == s.toList) = true := hB
          have HB : Hid (pB s d = true) := hB
          clear hB
          go_wp2_with fail
          refine bodyPost_ret (v := .tuple #[.agg #[.int .i64 (wh (pX s d)), .int .u64 (wl (pX s d))], .bool true]) (by simp [results, Try.results10, go_sem, g3, g4]) rfl ⟨by rw [HD.out]; simpa using ret_pyes s d HB.out, ?_⟩
          repeat (first | exact g1 | refine ab_set ?_ (by dsimp only; omega) _)
end Go.Proofs.Ytahpnkdofnnolab
