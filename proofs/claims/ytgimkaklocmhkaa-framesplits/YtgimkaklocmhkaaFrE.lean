/-
  What the laws call besides: alive, large, estuarynum.Num.
-/
import Derived.Test.YtgimkaklocmhkaaFrD
import Derived.Lib.SmallJoins
namespace Go.Proofs.Ytgimkaklocmhkaa
open Go.RowKit
set_option linter.unusedVariables false

theorem ex_nums : strB ([] ++ numsB [0, -1, 1, -300]) = ⟨#[0, 1, 1, 1, 2, 2, 87, 2]⟩ := by decide +kernel
theorem ex_frm : strB (frm ([] : List (List Nat)).flatten) = ⟨#[0, 0, 0, 0, 197, 157, 28, 129]⟩ := by decide +kernel
theorem isl4 (a b c d : Int) (w : World) : (Instr.buildSlice 23 4 #[(0, .int .i64 a), (1, .int .i64 b), (2, .int .i64 c), (3, .int .i64 d)]).run Try.prog w = .ok (.slice (some ⟨w.heap.size, 0, none⟩) 4 4) (w.alloc (.cells (ints [a, b, c, d]).toArray 3)) := by kernel_rfl
set_option maxHeartbeats 400000 in
theorem alive4_any (w : World) : Calls Try.prog 9 #[] w fun e w' => e = .returned (.bool true) ∧ Below w.heap.size w w' := by
  have HX : Hid (strB ([] ++ numsB [0, -1, 1, -300]) = ⟨#[0, 1, 1, 1, 2, 2, 87, 2]⟩) := ex_nums
  have HY : Hid (strB (frm ([] : List (List Nat)).flatten) = ⟨#[0, 0, 0, 0, 197, 157, 28, 129]⟩) := ex_frm
  go_enter Try.func9, Try.ntmps9
  go_upto_region 2 with (go_at_call 21; refine (wrap_ok _ [] [] _ (ls_nil _) (fun l h => by simp at h) (by simp)).mono ?_; rintro e W1 ⟨v1, rfl, HO1, hn1, hb1⟩)
  go_wp2_with (first
    | (refine bs_own rfl rfl [0, -1, 1, -300] (by simp only [List.map_toArray, List.map_cons, List.map_nil]; rfl) (isl4 _ _ _ _ _) rfl (by decide) ?_; intro W2 hN2 hb2 z2)
    | (go_at_call 12; refine (put_any _ [] _ [0, -1, 1, -300] _ (sl_nil _) (by simp) (own_is hN2) (by simp) (fun x hx => by simp at hx; omega)).mono ?_; rintro e W3 ⟨v3, rfl, HO3, hb3⟩; have hc3 := sl_str HO3.sl; have hc1 := sl_str (HO1.sl.keep (ab_trans hb2 hb3)); rw [HX.out] at hc3; rw [HY.out] at hc1))
  go_ret
  exact ⟨rfl, ab_trans hb1 (ab_trans hb2 hb3)⟩

/-- What large answers. -/
def LP (ls : List (List Nat)) (e : Ending) : Prop := ∃ r : Bool, e = .returned (.bool r) ∧ (r = false → ls.length ≤ 300 ∧ ls.flatten.length ≤ 65536)
set_option maxHeartbeats 400000 in
theorem large_any (v : Value) (vs : List Value) (ls : List (List Nat)) (w : World) (hv : Ls w v vs ls) :
    Calls Try.prog 10 #[v] w fun e w' => LP ls e ∧ w' = w := by
  obtain ⟨q, cap, g, off, rfl, hc, hm, hp, hg, hr⟩ := hv.open
  obtain ⟨hlen, -, hE⟩ := hv
  generalize hn : ls.length = n at *
  go_enter Try.func10, Try.ntmps10
  go_wp2_with fail
  go_loopw [3, 8] (fun s i wr => ∃ (k : Nat) (x : Int), k ≤ n ∧ i = .int .i64 (k : Int) ∧ s = .int .i64 x ∧ (k ≤ 300 → x = ((ls.take k).flatten.length : Nat) ∧ (ls.take k).flatten.length ≤ 65536 * k) ∧ wr = w) (fun _ i _ => n - (intOf i).toNat)
  case atStart => exact ⟨0, 0, by omega, rfl, rfl, by simp, rfl⟩
  case round =>
    obtain ⟨k, x, hk, rfl, rfl, hs, rfl⟩ := hrel
    by_cases c : k = n
    · subst c
      rw [List.take_of_length_le (by omega)] at hs
      clear hp hg hr hE
      by_cases c1 : 65536 < x
      · go_wp2_with fail
        go_ret
        exact ⟨⟨true, rfl, fun h => absurd h (by decide)⟩, rfl⟩
      · have HR : Hid (decide (300 < (k : Int)) = false → k ≤ 300 ∧ ls.flatten.length ≤ 65536) := by
          intro h
          have h1 := of_decide_eq_false h
          have := hs (by omega)
          constructor <;> omega
        clear hs
        go_wp2_with fail
        go_ret
        refine ⟨⟨_, rfl, fun h => ?_⟩, rfl⟩
        rw [hn]
        exact HR.out h
    · obtain ⟨y, hy⟩ : ∃ y, vs[k]? = some y := ⟨vs[k], List.getElem?_eq_getElem (by omega)⟩
      obtain ⟨l, hl⟩ : ∃ l, ls[k]? = some l := ⟨ls[k], List.getElem?_eq_getElem (by omega)⟩
      obtain rfl := hp (by omega)
      have d := hr k y hy
      obtain ⟨q2, cap2, g2, off2, rfl, hc2, hm2, hp2, hg2, hr2⟩ := (hE k y l hy hl).open
      have hki : (k : Int) < (n : Int) := by omega
      have hkn : k < n := by omega
      have HF : Hid ((ls.take (k + 1)).flatten.length = (ls.take k).flatten.length + l.length) := flat_len ls k l hl
      have HS : Hid (k ≤ 300 → x = ((ls.take k).flatten.length : Nat) ∧ (ls.take k).flatten.length ≤ 65536 * k) := hs
      clear hr hp hg hy hE hl hs hr2 hp2 hg2
      generalize hn2 : l.length = n2 at *
      by_cases c1 : 65536 < n2
      · go_wp2_with fail
        go_ret
        exact ⟨⟨true, rfl, fun h => absurd h (by decide)⟩, rfl⟩
      · go_wp2_with fail
        refine ⟨⟨k + 1, _, by omega, rfl, rfl, fun h => ?_, trivial⟩, by simp only [intOf]; omega⟩
        obtain ⟨h1, h2⟩ := HS.out (by omega)
        rw [HF.out]
        refine ⟨?_, by omega⟩
        rw [h1]
        first | (unfold wrap64; omega) | omega
theorem num_nil (w : World) : Calls Try.prog 23 #[.nilIface] w fun e w' => e = .returned (.int .i64 0) ∧ w' = w := by
  go_enter Try.func23, Try.ntmps23
  go_wp2_with fail
  go_ret
  exact ⟨rfl, rfl⟩
theorem ta_err (n : Int) (w : World) : (Instr.typeAssert (Err n) 35 40 true).run Try.prog w = .ok (.tuple #[.int .i64 n, .bool true]) w := by kernel_rfl
theorem num_err (n : Int) (hn : n ≠ 0) (w : World) : Calls Try.prog 23 #[Err n] w fun e w' => e = .returned (.int .i64 n) ∧ w' = w := by
  have h0 : (n == 0) = false := by simp [hn]
  have ht := ta_err n w
  go_enter Try.func23, Try.ntmps23
  go_wp2_with fail
  go_ret
  exact ⟨rfl, rfl⟩
/-- '==' of two errors. -/
theorem eq33 (w : World) : (binOp .eql 35 (Err 3) (Err 3)).run Try.prog w = .ok (.bool true) w := by kernel_rfl
theorem ne33 (w : World) : (binOp .neq 35 (Err 3) (Err 3)).run Try.prog w = .ok (.bool false) w := by kernel_rfl
theorem eq77 (w : World) : (binOp .eql 35 (Err 7) (Err 7)).run Try.prog w = .ok (.bool true) w := by kernel_rfl
theorem eq30 (w : World) : (binOp .eql 35 (Err 3) .nilIface).run Try.prog w = .ok (.bool false) w := by kernel_rfl
theorem ne30 (w : World) : (binOp .neq 35 (Err 3) .nilIface).run Try.prog w = .ok (.bool true) w := by kernel_rfl
theorem ne70 (w : World) : (binOp .neq 35 (Err 7) .nilIface).run Try.prog w = .ok (.bool true) w := by kernel_rfl
theorem ne00 (w : World) : (binOp .neq 35 .nilIface .nilIface).run Try.prog w = .ok (.bool false) w := by kernel_rfl
theorem eq00 (w : World) : (binOp .eql 35 .nilIface .nilIface).run Try.prog w = .ok (.bool true) w := by kernel_rfl
end Go.Proofs.Ytgimkaklocmhkaa
