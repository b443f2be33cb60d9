/-
  What floor.Text returns at every wide number.
-/
import Derived.Test.YtahpnkdofnnolabWalk3
import Derived.Test.YtahpnkdofnnolabPlain2
import Derived.Laws.StructEq
namespace Go.Proofs.Ytahpnkdofnnolab
open Go.RowKit
set_option linter.unusedVariables false

theorem ok_fold (p : Prop) [Decidable p] (b : Bool) (w : World) : (if p then Result.ok b w else Result.ok false w) = Result.ok (decide p && b) w := by
  by_cases h : p <;> simp [h]
attribute [local go_sem] ok_fold

/-- One block of two cells behind a call that turned nothing below. -/
theorem blocks1 {w w2 : World} {c0 c1 : Value} {T : TypeId} (hb : Below (w.alloc (.cells #[c0, c1] T)).heap.size (w.alloc (.cells #[c0, c1] T)) w2) :
    w2.cell? ⟨w.heap.size, 0, none⟩ = some c0 ∧ w2.cell? ⟨w.heap.size, 1, none⟩ = some c1 ∧ w.heap.size < w2.heap.size :=
  ⟨(hb.cell (p := ⟨w.heap.size, 0, none⟩) (by simp)).trans (by simp [go_sem]), (hb.cell (p := ⟨w.heap.size, 1, none⟩) (by simp)).trans (by simp [go_sem]),
   by have := hb.size; simp at this; omega⟩

theorem block_new {w w2 : World} {cs : Array Value} {T : TypeId} (hb : Below (w.alloc (.cells cs T)).heap.size (w.alloc (.cells cs T)) w2) :
    (∀ i, i < cs.size → w2.cell? ⟨w.heap.size, i, none⟩ = cs[i]?) ∧ (∀ i, i < cs.size → w2.frozen? ⟨w.heap.size, i, none⟩ = false) ∧ w.heap.size < w2.heap.size :=
  ⟨fun i hi => (hb.cell (p := ⟨w.heap.size, i, none⟩) (by simp)).trans (by simp [go_sem]), fun i hi => (hb.frozen (p := ⟨w.heap.size, i, none⟩) (by simp)).trans (by simp [go_sem]),
   by have := hb.size; simp at this; omega⟩

/-- While Text writes digits: the number's box, and the forty bytes. -/
def Tx (w : World) (D : Nat) (c0 c1 : Value) (cs : Nat → Int) (wr : World) : Prop :=
  Below w.heap.size w wr ∧ w.heap.size < D ∧ D < wr.heap.size ∧ wr.cell? ⟨w.heap.size, 0, none⟩ = some c0 ∧ wr.cell? ⟨w.heap.size, 1, none⟩ = some c1 ∧
  (∀ i, i < 40 → wr.cell? ⟨D, i, none⟩ = some (.int .u8 (cs i))) ∧ (∀ i, i < 40 → wr.frozen? ⟨D, i, none⟩ = false)

theorem Tx.drewN {w wr : World} {D : Nat} {c0 c1 : Value} {cs : Nat → Int} (h : Tx w D c0 c1 cs wr) (n : Nat) : Tx w D c0 c1 cs (wr.drewN n) :=
  ⟨ab_drewN h.1 n, h.2.1, h.2.2.1, h.2.2.2.1, h.2.2.2.2.1, h.2.2.2.2.2.1, h.2.2.2.2.2.2⟩
theorem Tx.set {w wr : World} {D : Nat} {c0 c1 : Value} {cs : Nat → Int} (h : Tx w D c0 c1 cs wr) (p : Nat) (hp : p < 40) (v : Int) : Tx w D c0 c1 (upd cs p v) (wr.setCell ⟨D, p, none⟩ (.int .u8 v)) := by
  obtain ⟨h1, h2, h3, h4, h5, h6, h7⟩ := h
  have hh6 := h6 p hp
  refine ⟨ab_set h1 (by dsimp only; omega) _, h2, by simpa [World.setCell] using h3, ?_, ?_, ?_, ?_⟩
  · rw [← h4]; exact World.cell?_setCell_other _ _ _ _ (by intro e; have := congrArg Addr.block e; dsimp only at this; omega)
  · rw [← h5]; exact World.cell?_setCell_other _ _ _ _ (by intro e; have := congrArg Addr.block e; dsimp only at this; omega)
  · intro i hi
    unfold upd
    by_cases c : i = p
    · subst c; rw [if_pos rfl]; exact World.cell?_setCell_same _ _ _ hh6
    · rw [if_neg c, World.cell?_setCell_other _ _ _ _ (by intro e; have := congrArg Addr.off e; dsimp only at this; omega)]; exact h6 i hi
  · intro i hi
    simpa using h7 i hi

theorem zeros40 : ∀ i, i < 40 → (#[Value.int .u8 0, .int .u8 0, .int .u8 0, .int .u8 0, .int .u8 0, .int .u8 0, .int .u8 0, .int .u8 0, .int .u8 0, .int .u8 0, .int .u8 0, .int .u8 0, .int .u8 0, .int .u8 0, .int .u8 0, .int .u8 0, .int .u8 0, .int .u8 0, .int .u8 0, .int .u8 0, .int .u8 0, .int .u8 0, .int .u8 0, .int .u8 0, .int .u8 0, .int .u8 0, .int .u8 0, .int .u8 0, .int .u8 0, .int .u8 0, .int .u8 0, .int .u8 0, .int .u8 0, .int .u8 0, .int .u8 0, .int .u8 0, .int .u8 0, .int .u8 0, .int .u8 0, .int .u8 0])[i]? = some (.int .u8 0) := by
  intro i hi
  match i, hi with
  | 0, _ | 1, _ | 2, _ | 3, _ | 4, _ | 5, _ | 6, _ | 7, _ | 8, _ | 9, _ | 10, _ | 11, _ | 12, _ | 13, _ | 14, _ | 15, _ | 16, _ | 17, _ | 18, _ | 19, _ | 20, _ | 21, _ | 22, _ | 23, _ | 24, _ | 25, _ | 26, _ | 27, _ | 28, _ | 29, _ | 30, _ | 31, _ | 32, _ | 33, _ | 34, _ | 35, _ | 36, _ | 37, _ | 38, _ | 39, _ => rfl
  | n + 40, h => omega

theorem slice_at (D q : Nat) (hq : q ≤ 40) (W : World) : (Instr.sliceAt 37 (.pointer (some ⟨D, 0, none⟩)) (some (.int .i64 (q : Int))) none none).run Try.prog W = .ok (.slice (some (if 40 = q then ⟨D, 0, none⟩ else ⟨D, q, none⟩)) (40 - q) (40 - q)) W := by
  have e : Try.prog.arrayLen 37 = 40 := by kernel_rfl
  have h := run_sliceAt_array_l (P := Try.prog) W 37 ⟨D, 0, none⟩ (by rw [e]; kernel_rfl) .i64 (q : Int) (by omega) (by rw [e]; omega)
  rw [h, e]
  have s : (sizeOf (Try.prog.elem 37)).run Try.prog W = .ok 1 W := by kernel_rfl
  rw [s]
  by_cases z : q = 0
  · subst z; simp [Result.andThen, slicedAt, Addr.add]
  · simp [Result.andThen, slicedAt, Addr.add, z]
theorem ret_str {l l' : List Int} (h : l = l') : Ending.returned (.string (strOfNums l)) = .returned (.string (strOfNums l')) := by rw [h]
theorem conv_tx {w W : World} {D : Nat} {c0 c1 : Value} {cs : Nat → Int} (h : Tx w D c0 c1 cs W) (q : Nat) (hq : q ≤ 40) :
    (convert 43 9 (.slice (some ⟨D, q, none⟩) (40 - q) (40 - q))).run Try.prog W = .ok (.string (strOfNums ((List.range (40 - q)).map fun i => cs (q + i)))) W :=
  run_convert_bytes_arg (P := Try.prog) W 43 5 Try.underlying43 Try.underlying5 D q (40 - q) (40 - q) _ (by simp)
    (fun i hi => by rw [h.2.2.2.2.2.1 (q + i) (by omega)]; simp [hi]) 9 Try.underlying9

set_option maxHeartbeats 400000 in
theorem text_nz (ah al : Int) (w : World) (h0 : -9223372036854775808 ≤ ah) (h1 : ah ≤ 9223372036854775807) (l0 : 0 ≤ al) (l1 : al ≤ 18446744073709551615) (hn : wv ah al ≠ 0) :
    Calls Try.prog 9 #[.agg #[.int .i64 ah, .int .u64 al]] w fun e w' => e = .returned (.string (strOfNums (textOf (wv ah al)))) ∧ Below w.heap.size w w' := by
  have hq : (decide (ah = 0) && decide (al = 0)) = false := by
    by_cases c : ah = 0
    · subst c; have : al ≠ 0 := by intro h; subst h; exact hn rfl
      simp [this]
    · simp [c]
  go_enter Try.func9, Try.ntmps9
  go_wp2_with fail
  go_region_held3 (fun w' => w'.cell? ⟨w.heap.size, 0, none⟩ = some (.int .i64 ah) ∧ w'.cell? ⟨w.heap.size, 1, none⟩ = some (.int .u64 al)) (go_keep)
    (first
      | (go_at_call 17; refine (of_zero _).mono ?_; rintro e w1 ⟨rfl, hb1⟩; have hb1 := undrew hb1; obtain ⟨q0, q1, hz⟩ := blocks1 hb1))
  go_wp2_with fail
  refine (amount_any _ _ _ h0 h1 l0 l1).mono ?_
  rintro e w2 ⟨rfl, hb2⟩
  obtain ⟨hc, hf, hz2⟩ := block_new hb2
  go_wp2_with fail
  have hN : Hid ((wv ah al).natAbs ≤ 170141183460469231731687303715884105728) := by
    show _ ≤ _; have := wv_bd ah al h0 h1 l0 l1; omega
  have hT : Tx w w1.heap.size (.int .i64 ah) (.int .u64 al) (fun _ => 0) w2 := by
    refine ⟨ab_trans (ab_alloc (ab_trans (ab_alloc (Below.refl _ _) _) hb1) _) hb2, hz, hz2, ?_, ?_, ?_, ?_⟩
    · rw [hb2.cell (p := ⟨w.heap.size, 0, none⟩) (by simp; omega)]; simp [go_sem, hz, q0]
    · rw [hb2.cell (p := ⟨w.heap.size, 1, none⟩) (by simp; omega)]; simp [go_sem, hz, q1]
    · intro i hi
      rw [hc i hi]
      exact zeros40 i hi
    · intro i hi
      exact hf i hi
  clear hc hf hz2 hb2 hq
  generalize w1.heap.size = D at *
  go_loopw [4, 5, 6] (fun at_ hi lo wr => ∃ (k p : Nat) (h l : Int) (cs : Nat → Int), k + p = 40 ∧ 1 ≤ p ∧ at_ = .int .i64 (p : Int) ∧ hi = .int .u64 h ∧ lo = .int .u64 l ∧ 0 ≤ h ∧ h ≤ 18446744073709551615 ∧ 0 ≤ l ∧ l ≤ 18446744073709551615 ∧ wv h l = (((wv ah al).natAbs / 10 ^ k : Nat) : Int) ∧ (k = 0 ∨ (wv ah al).natAbs / 10 ^ (k - 1) ≠ 0) ∧ Digs (wv ah al).natAbs k cs ∧ Tx w D (.int .i64 ah) (.int .u64 al) cs wr) (fun at_ _ _ _ => (intOf at_).toNat)
  case atStart => exact ⟨0, 40, _, _, _, by omega, by omega, rfl, rfl, rfl, by omega, by have := hN.out; omega, by omega, by omega, by unfold wv; simp; omega, .inl rfl, fun j hj => absurd hj (by omega), hT⟩
  case round =>
    obtain ⟨k, p, h, l, cs, hk, hp1, rfl, rfl, rfl, a0, a1, b0, b1, HV, HG, HD, HT⟩ := hrel
    by_cases c : h = 0 ∧ l = 0
    · obtain ⟨rfl, rfl⟩ := c
      have HW : Hid (wv 0 0 = (((wv ah al).natAbs / 10 ^ k : Nat) : Int)) := HV
      clear HV hT
      have g0 := HT.2.2.2.1
      have HZ : Hid ((wv ah al).natAbs / 10 ^ k = 0 ∧ (wv ah al).natAbs / 10 ^ (k - 1) ≠ 0) := by
        show _ ∧ _
        have h1 := HW.out
        have h2 : (wv ah al).natAbs / 10 ^ k = 0 := by have : wv 0 0 = 0 := rfl; omega
        refine ⟨h2, ?_⟩
        rcases HG with rfl | g
        · simp at h2; omega
        · exact g
      clear HW HG
      by_cases sg : ah < 0
      · obtain ⟨q, rfl⟩ : ∃ q, p = q + 1 := ⟨p - 1, by omega⟩
        have hc := HT.2.2.2.2.2.1 q (by omega)
        have hf := HT.2.2.2.2.2.2 q (by omega)
        have hq : q ≤ 39 := by omega
        have hsl := fun W => slice_at D q (by omega) W
        rw [if_neg (by omega)] at hsl
        have HT2 := HT.set q (by omega) 45
        have hcv := conv_tx HT2 q (by omega)
        have HX : Hid ((List.range (40 - q)).map (fun i => upd cs q 45 (q + i)) = textOf (wv ah al)) :=
          text_neg _ k q cs (by unfold wv; omega) HZ.out.1 HZ.out.2 hk HD
        go_wp2_with fail
        go_ret
        exact ⟨ret_str HX.out, HT2.1⟩
      · have sg' : decide (ah < 0) = false := by simpa using sg
        have hp39 : p ≤ 39 := by
          have := HZ.out.2
          rcases Nat.eq_zero_or_pos k with rfl | _
          · have := HZ.out.1; simp at this; omega
          · omega
        have hsl := fun W => slice_at D p (by omega) W
        rw [if_neg (by omega)] at hsl
        have hcv := conv_tx HT p (by omega)
        have HX : Hid ((List.range (40 - p)).map (fun i => cs (p + i)) = textOf (wv ah al)) :=
          text_pos _ k p cs (by unfold wv at *; omega) HZ.out.1 HZ.out.2 hk HD
        go_wp2_with fail
        go_ret
        exact ⟨ret_str HX.out, HT.1⟩
    · have HW : Hid (wv h l = (((wv ah al).natAbs / 10 ^ k : Nat) : Int)) := HV
      have hp : (wv ah al).natAbs / 10 ^ k ≠ 0 := by
        intro e; rw [e] at HV; unfold wv at HV; omega
      have hk8 := ten_pow _ _ hp hN.out
      obtain ⟨q, rfl⟩ : ∃ q, p = q + 1 := ⟨p - 1, by omega⟩
      have HR := Digs.step HD hk8 (48 + wv h l % 10) (by rw [HV]; omega)
      have HS : Hid (wv (wv h l / 10 / 18446744073709551616) (wv h l / 10 % 18446744073709551616) = (((wv ah al).natAbs / 10 ^ (k + 1) : Nat) : Int)) := by
        show _ = _; rw [ten_step]; rw [HV]; unfold wv; omega
      have hb : 0 ≤ wv h l ∧ wv h l ≤ 340282366920938463463374607431768211455 := by unfold wv; omega
      have hq : q ≤ 39 := by omega
      have hc := HT.2.2.2.2.2.1 q (by omega)
      have hf := HT.2.2.2.2.2.2 q (by omega)
      have HP : Hid ((wv ah al).natAbs / 10 ^ (k + 1 - 1) ≠ 0) := hp
      clear HV hT hp
      have H39 : Hid (39 - k = q) := by show _ = _; omega
      clear HG
      by_cases d : h = 0
      · have d1 : (h != 0) = false := by simp [d]
        have d2 : (l != 0) = true := by simp; omega
        clear c d
        go_wp2_with (go_at_call 20; refine (tenth_any _ _ _ a0 a1 b0 b1).mono ?_; rintro e w3 ⟨rfl, n, rfl⟩)
        go_roundw
        case rel => exact ⟨k + 1, q, _, _, _, by omega, by omega, by go_num, rfl, rfl, by omega, by omega, by omega, by omega, HS.out, .inr HP.out, H39.out ▸ HR, (HT.drewN n).set q (by omega) _⟩
        case measure => simp [intOf]
      · have d1 : (h != 0) = true := by simp [d]
        clear c d
        go_wp2_with (go_at_call 20; refine (tenth_any _ _ _ a0 a1 b0 b1).mono ?_; rintro e w3 ⟨rfl, n, rfl⟩)
        go_roundw
        case rel => exact ⟨k + 1, q, _, _, _, by omega, by omega, by go_num, rfl, rfl, by omega, by omega, by omega, by omega, HS.out, .inr HP.out, H39.out ▸ HR, (HT.drewN n).set q (by omega) _⟩
        case measure => simp [intOf]

set_option maxHeartbeats 400000 in
theorem text_zero (w : World) :
    Calls Try.prog 9 #[.agg #[.int .i64 0, .int .u64 0]] w fun e w' => e = .returned (.string (strOfNums (textOf (wv 0 0)))) ∧ Below w.heap.size w w' := by
  go_enter Try.func9, Try.ntmps9
  go_wp2_with fail
  go_region_held3 (fun w' => w'.cell? ⟨w.heap.size, 0, none⟩ = some (.int .i64 0) ∧ w'.cell? ⟨w.heap.size, 1, none⟩ = some (.int .u64 0)) (go_keep)
    (first
      | (go_at_call 17; refine (of_zero _).mono ?_; rintro e w1 ⟨rfl, hb1⟩; have hb1 := undrew hb1; obtain ⟨q0, q1, hz⟩ := blocks1 hb1))
  go_wp2_with fail
  go_ret
  exact ⟨rfl, ab_trans (ab_alloc (Below.refl _ _) _) hb1⟩

theorem text_any (ah al : Int) (w : World) (h0 : -9223372036854775808 ≤ ah) (h1 : ah ≤ 9223372036854775807) (l0 : 0 ≤ al) (l1 : al ≤ 18446744073709551615) :
    Calls Try.prog 9 #[.agg #[.int .i64 ah, .int .u64 al]] w fun e w' => e = .returned (.string (strOfNums (textOf (wv ah al)))) ∧ Below w.heap.size w w' := by
  by_cases c : wv ah al = 0
  · have e : ah = 0 ∧ al = 0 := by unfold wv at c; omega
    obtain ⟨rfl, rfl⟩ := e
    exact text_zero w
  · exact text_nz ah al w h0 h1 l0 l1 c

theorem alive_text : strOfNums (textOf (wv (-1) 0)) = ⟨#[45, 49, 56, 52, 52, 54, 55, 52, 52, 48, 55, 51, 55, 48, 57, 53, 53, 49, 54, 49, 54]⟩ := by decide +kernel
theorem alive_d1 (w : World) : Calls Try.prog 12 #[.int .i64 (-1), .int .i64 10] w fun e w' => e = .returned (.int .i64 (-1)) ∧ ∃ n, w' = w.drewN n := div_any (-1) 10 w (by omega) (by omega) (by omega)
theorem alive_m1 (w : World) : Calls Try.prog 13 #[.int .i64 (-1), .int .i64 10] w fun e w' => e = .returned (.int .i64 9) ∧ ∃ n, w' = w.drewN n := mod_any (-1) 10 w (by omega) (by omega) (by omega)
theorem alive_d2 (w : World) : Calls Try.prog 12 #[.int .i64 (-9223372036854775808), .int .i64 3] w fun e w' => e = .returned (.int .i64 (-3074457345618258603)) ∧ ∃ n, w' = w.drewN n := div_any (-9223372036854775808) 3 w (by omega) (by omega) (by omega)
theorem alive_t (w : World) : Calls Try.prog 9 #[.agg #[.int .i64 (-1), .int .u64 0]] w fun e w' => e = .returned (.string ⟨#[45, 49, 56, 52, 52, 54, 55, 52, 52, 48, 55, 51, 55, 48, 57, 53, 53, 49, 54, 49, 54]⟩) ∧ Below w.heap.size w w' := by
  rw [← alive_text]; exact text_any (-1) 0 w (by omega) (by omega) (by omega) (by omega)

set_option maxHeartbeats 400000 in
theorem alive_any (w : World) :
    Calls Try.prog 7 #[] w fun e w' => e = .returned (.bool true) ∧ Below w.heap.size w w' := by
  go_enter Try.func7, Try.ntmps7
  go_wp2_with fail
  refine (alive_d1 _).mono ?_
  rintro e w1 ⟨rfl, n1, rfl⟩
  go_wp2_with fail
  refine (alive_m1 _).mono ?_
  rintro e w2 ⟨rfl, n2, rfl⟩
  go_wp2_with fail
  refine (alive_d2 _).mono ?_
  rintro e w3 ⟨rfl, n3, rfl⟩
  go_wp2_with fail
  refine (alive_t _).mono ?_
  rintro e w4 ⟨rfl, hb⟩
  go_wp2_with fail
  go_ret
  exact ⟨rfl, ab_trans (ab_drewN (Below.refl _ _) _) hb⟩
end Go.Proofs.Ytahpnkdofnnolab
