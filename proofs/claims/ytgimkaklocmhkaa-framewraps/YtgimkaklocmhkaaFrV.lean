/-
  The document's Sum, four, Wrap, Unwrap, Split.
-/
import Derived.Test.YtgimkaklocmhkaaFrR
namespace Go.Proofs.Ytgimkaklocmhkaa
open Go.RowKit
set_option linter.unusedVariables false

/-- The bits that differ, as far as they have been looked at. -/
def bx (a b : Nat) : Nat → Nat
  | 0 => 0
  | k + 1 => bx a b k + (if a / 2 ^ k % 2 ≠ b / 2 ^ k % 2 then 2 ^ k else 0)
theorem xor_bit (a b : Nat) : (a ^^^ b) % 2 = if a % 2 ≠ b % 2 then 1 else 0 := by
  have h := Nat.xor_mod_two_pow (a := a) (b := b) (n := 1)
  rw [Nat.pow_one] at h
  rw [h]
  rcases Nat.mod_two_eq_zero_or_one a with ha | ha <;> rcases Nat.mod_two_eq_zero_or_one b with hb | hb <;> rw [ha, hb] <;> rfl
theorem bx_xor (a b k : Nat) : bx a b k = (a ^^^ b) % 2 ^ k := by
  induction k with
  | zero => simp [bx, Nat.mod_one]
  | succ k ih =>
    rw [bx, ih, Nat.mod_pow_succ, Nat.xor_div_two_pow, xor_bit]
    split <;> simp
theorem xor_low (s b : Nat) (hb : b < 256) : s - s % 256 + bx (s % 256) b 8 = s ^^^ b := by
  have h1 := Nat.xor_mod_two_pow (a := s) (b := b) (n := 8)
  have h2 := Nat.xor_div_two_pow (a := s) (b := b) (n := 8)
  have h3 : b / 2 ^ 8 = 0 := Nat.div_eq_of_lt (by omega)
  have h4 : b % 2 ^ 8 = b := Nat.mod_eq_of_lt (by omega)
  rw [h3, Nat.xor_zero] at h2
  rw [h4] at h1
  have e : bx (s % 256) b 8 = (s ^^^ b) % 2 ^ 8 := by
    rw [bx_xor, Nat.xor_mod_two_pow, Nat.mod_mod_of_dvd _ (by decide), h4, h1]
  rw [e]
  have h5 := Nat.div_add_mod (s ^^^ b) (2 ^ 8)
  have h6 := Nat.div_add_mod s (2 ^ 8)
  rw [h2] at h5
  omega
theorem bx_le (a b k : Nat) : bx a b k < 2 ^ k := by rw [bx_xor]; exact Nat.mod_lt _ (Nat.two_pow_pos k)
set_option maxHeartbeats 1000000 in
theorem rsum_any (v : Value) (l : List Nat) (w : World) (hv : Sl w v l) (hb : Byt l) :
    Calls Try.prog 25 #[v] w fun e w' => e = .returned (.int .u32 ((sm l : Nat) : Int)) ∧ Below w.heap.size w w' := by
  obtain ⟨q, cap, g, off, rfl, hc, hm, hp, hg, hr⟩ := hv.open
  clear hv
  generalize hn : l.length = n at *
  go_enter Try.func25, Try.ntmps25
  go_wp2_with fail
  go_loopw [3, 4] (fun s i wr => ∃ k : Nat, k ≤ n ∧ i = .int .i64 (k : Int) ∧ s = .int .u64 ((sm (l.take k) : Nat) : Int) ∧ Below w.heap.size w wr) (fun _ i _ => n - (intOf i).toNat)
  case atStart => exact ⟨0, by omega, rfl, rfl, Below.refl _ _⟩
  case round =>
    obtain ⟨k, hk, rfl, rfl, hbw⟩ := hrel
    have hs := sm_lt (l.take k)
    by_cases c : k = n
    · have hki : ¬ (k : Int) < (n : Int) := by omega
      rw [List.take_of_length_le (by omega)] at hs ⊢
      clear hp hg hr hb
      go_wp2_with fail
      go_ret
      exact ⟨rfl, hbw⟩
    · obtain ⟨x, hx⟩ : ∃ x, l[k]? = some x := ⟨l[k], List.getElem?_eq_getElem (by omega)⟩
      obtain rfl := hp (by omega)
      have hg1 := hg (by omega)
      have d0 := hr k x hx
      have hxb := hb.at hx
      have hki : (k : Int) < (n : Int) := by omega
      have hkn : k < n := by omega
      have HS : Hid (sm (l.take (k + 1)) = stp (sm (l.take k)) x) := by
        show _ = _
        rw [List.take_add_one, hx, Option.toList_some]
        unfold sm
        rw [smF_snoc]
      generalize hA : sm (l.take k) = s at *
      clear hr hp hg hb hx
      obtain ⟨L, hLd⟩ : ∃ L, s % 256 = L := ⟨_, rfl⟩
      have hlow : L < 256 := by rw [← hLd]; exact Nat.mod_lt _ (by decide)
      have hle : L ≤ s := by rw [← hLd]; exact Nat.mod_le _ _
      have HX' : Hid (s - L + bx L x 8 = s ^^^ x) := by show _ = _; rw [← hLd]; exact xor_low s x hxb
      have hL1 : ((s : Nat) : Int) % 256 = ((L : Nat) : Int) := by omega
      have hL2 : ((s : Nat) : Int).tmod 256 = ((L : Nat) : Int) := by rw [Int.tmod_eq_emod_of_nonneg (by omega)]; omega
      have hL3 : ((s : Nat) : Int) - ((L : Nat) : Int) = ((s - L : Nat) : Int) := by omega
      have hBs : s - L ≤ 4294967296 := by omega
      generalize hB : s - L = B at *
      clear hLd
      go_wp2_with fail
      go_loopw [3, 6] (fun u i wr' => ∃ j : Nat, j ≤ 8 ∧ i = .int .i64 (j : Int) ∧ u = .int .u64 ((B + bx L x j : Nat) : Int) ∧ Below w.heap.size w wr') (fun _ i _ => 8 - (intOf i).toNat)
      case atStart => exact ⟨0, by omega, rfl, by simp [bx], hbw⟩
      case round =>
        clear hbw hL1 hL2 hL3
        obtain ⟨j, hj, rfl, rfl, hbw⟩ := hrel
        by_cases c2 : j = 8
        · subst c2
          have hxl := xor_lt hs hxb
          have HST : Hid (((s ^^^ x) * 16777619) % 4294967296 = stp s x) := rfl
          rw [HX'.out]
          generalize hY : s ^^^ x = Y at *
          have hY1 : (Y : Int) * 16777619 % 4294967296 = ((stp s x : Nat) : Int) := by rw [← HST.out]; omega
          have hY2 : ((Y : Int) * 16777619).tmod 4294967296 = ((stp s x : Nat) : Int) := by rw [Int.tmod_eq_emod_of_nonneg (by omega)]; exact hY1
          go_wp2_with fail
          exact ⟨⟨k + 1, by omega, rfl, by rw [HS.out], hbw⟩, by simp only [intOf]; omega⟩
        · have hj8 : j < 8 := by omega
          have hj8i : (j : Int) < 8 := by omega
          have hbx := bx_le L x j
          have hp2 : 2 ^ j ≤ 128 := by have := Nat.pow_le_pow_right (n := 2) (by decide) (show j ≤ 7 by omega); omega
          have d := keep_cell hbw d0 hg1
          have HBX : Hid (bx L x (j + 1) = bx L x j + (if L / 2 ^ j % 2 ≠ x / 2 ^ j % 2 then 2 ^ j else 0)) := rfl
          have hP1 : (2 : Int) ^ j = ((2 ^ j : Nat) : Int) := by rw [Int.natCast_pow]; rfl
          have hPp : 0 < 2 ^ j := Nat.two_pow_pos j
          have hPw : IntKind.u64.wrap ((2 : Int) ^ j) = ((2 ^ j : Nat) : Int) := by rw [hP1, IntKind.wrap_u64]; omega
          clear hP1
          have hbj : bx L x j < 256 := by omega
          generalize hP : 2 ^ j = P at HBX hPp hPw hp2
          have hP0 : ((P : Int) == 0) = false := by simp; omega
          have hP0' : ¬ (P : Int) = 0 := by omega
          have q1 : ((L : Nat) : Int) / ((P : Nat) : Int) = ((L / P : Nat) : Int) := by rw [Int.natCast_ediv]
          have q2 : ((x : Nat) : Int) / ((P : Nat) : Int) = ((x / P : Nat) : Int) := by rw [Int.natCast_ediv]
          have q3 : ((L : Nat) : Int).tdiv ((P : Nat) : Int) = ((L / P : Nat) : Int) := by rw [Int.tdiv_eq_ediv_of_nonneg (by omega)]; exact q1
          have q4 : ((x : Nat) : Int).tdiv ((P : Nat) : Int) = ((x / P : Nat) : Int) := by rw [Int.tdiv_eq_ediv_of_nonneg (by omega)]; exact q2
          have hdl : L / P ≤ L := Nat.div_le_self _ _
          have hdx : x / P ≤ x := Nat.div_le_self _ _
          generalize hM : L / P = M at *
          generalize hN : x / P = N at *
          clear hbx hM hN
          have x1 := cls_cell d (Nat.lt_of_lt_of_le hg1 hbw.size)
          by_cases ceq : M % 2 = N % 2
          · have HB0 : Hid (bx L x (j + 1) = bx L x j) := by show _ = _; rw [HBX.out, if_neg (by simp [ceq])]; rfl
            have hne1 : (((M : Nat) : Int) % 2 != ((N : Nat) : Int) % 2) = false := by simp; omega
            have hne2 : (((M : Nat) : Int).tmod 2 != ((N : Nat) : Int).tmod 2) = false := by rw [Int.tmod_eq_emod_of_nonneg (by omega), Int.tmod_eq_emod_of_nonneg (by omega)]; exact hne1
            go_upto_region 11 with fail
            refine wp_region_below (by kernel_rfl) (by kernel_rfl) ?_
            have HZ := cls_some wr
            repeat (go_big_quiet_step (fail))
            refine wpQuiet_nil ?_
            rintro _ ⟨y, rfl⟩
            obtain ⟨V9, hb9⟩ := y
            dsimp only
            clear x1 HZ d
            go_wp2_with fail
            exact ⟨⟨j + 1, by omega, rfl, by rw [HB0.out], ab_trans hbw hb9⟩, by simp only [intOf]; omega⟩
          · have HB0 : Hid (bx L x (j + 1) = bx L x j + P) := by show _ = _; rw [HBX.out, if_pos ceq]
            have hne1 : (((M : Nat) : Int) % 2 != ((N : Nat) : Int) % 2) = true := by simp; omega
            have hne2 : (((M : Nat) : Int).tmod 2 != ((N : Nat) : Int).tmod 2) = true := by rw [Int.tmod_eq_emod_of_nonneg (by omega), Int.tmod_eq_emod_of_nonneg (by omega)]; exact hne1
            go_upto_region 11 with fail
            refine wp_region_below (by kernel_rfl) (by kernel_rfl) ?_
            have HZ := cls_some wr
            repeat (go_big_quiet_step (fail))
            refine wpQuiet_nil ?_
            rintro _ ⟨y, rfl⟩
            obtain ⟨V9, hb9⟩ := y
            dsimp only
            clear x1 HZ d
            go_wp2_with fail
            exact ⟨⟨j + 1, by omega, rfl, by rw [HB0.out]; congr 1; omega, ab_trans hbw hb9⟩, by simp only [intOf]; omega⟩
end Go.Proofs.Ytgimkaklocmhkaa
