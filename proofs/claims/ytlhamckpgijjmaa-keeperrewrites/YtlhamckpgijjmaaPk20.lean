/-
  What the laws call besides: alive, large, estuarynum.Num.
  What ballot's small calls answer, and the document's: Less, whole, isNone, asks, Next, Good.
-/
import Derived.Test.YtlhamckpgijjmaaPk18
import Derived.Lib.SmallJoins
import Derived.Test.YtlhamckpgijjmaaRows
import Derived.Test.YtlhamckpgijjmaaPk01
import Derived.Test.YtlhamckpgijjmaaPk07
namespace Go.Proofs.Ytlhamckpgijjmaa
open Go.RowKit
set_option linter.unusedVariables false

theorem ex_nums : strB ([] ++ numsB [0, -1, 1, -300]) = ⟨#[0, 1, 1, 1, 2, 2, 87, 2]⟩ := by decide +kernel
theorem ex_frm : strB (frm ([] : List (List Nat)).flatten) = ⟨#[0, 0, 0, 0, 197, 157, 28, 129]⟩ := by decide +kernel
theorem isl4 (a b c d : Int) (w : World) : (Instr.buildSlice 31 4 #[(0, .int .i64 a), (1, .int .i64 b), (2, .int .i64 c), (3, .int .i64 d)]).run Try.prog w = .ok (.slice (some ⟨w.heap.size, 0, none⟩) 4 4) (w.alloc (.cells (ints [a, b, c, d]).toArray 3)) := by kernel_rfl
/-- What large answers. -/
def LP (ls : List (List Nat)) (e : Ending) : Prop := ∃ r : Bool, e = .returned (.bool r) ∧ (r = false → ls.length ≤ 300 ∧ ls.flatten.length ≤ 65536)
theorem ta_err (n : Int) (w : World) : (Instr.typeAssert (Err n) 28 55 true).run Try.prog w = .ok (.tuple #[.int .i64 n, .bool true]) w := by kernel_rfl
/-- '==' of two errors. -/
theorem eq33 (w : World) : (binOp .eql 28 (Err 3) (Err 3)).run Try.prog w = .ok (.bool true) w := by kernel_rfl
theorem ne33 (w : World) : (binOp .neq 28 (Err 3) (Err 3)).run Try.prog w = .ok (.bool false) w := by kernel_rfl
theorem eq77 (w : World) : (binOp .eql 28 (Err 7) (Err 7)).run Try.prog w = .ok (.bool true) w := by kernel_rfl
theorem eq30 (w : World) : (binOp .eql 28 (Err 3) .nilIface).run Try.prog w = .ok (.bool false) w := by kernel_rfl
theorem ne30 (w : World) : (binOp .neq 28 (Err 3) .nilIface).run Try.prog w = .ok (.bool true) w := by kernel_rfl
theorem ne70 (w : World) : (binOp .neq 28 (Err 7) .nilIface).run Try.prog w = .ok (.bool true) w := by kernel_rfl
theorem ne00 (w : World) : (binOp .neq 28 .nilIface .nilIface).run Try.prog w = .ok (.bool false) w := by kernel_rfl
theorem eq00 (w : World) : (binOp .eql 28 .nilIface .nilIface).run Try.prog w = .ok (.bool true) w := by kernel_rfl
/-- The error of a number. -/
def errV (n : Nat) : Value := if n = 0 then .nilIface else Err n
theorem errV_ok {n : Nat} (h : n = 0) : errV n = .nilIface := if_pos h
theorem errV_no {n : Nat} (h : n ≠ 0) : errV n = Err n := if_neg h
end Go.Proofs.Ytlhamckpgijjmaa
namespace Go.Proofs.Ytlhamckpgijjmaa
open Go.RowKit
set_option linter.unusedVariables false

abbrev bC (b : Bt) : Array Value := #[.int .i64 b.n, .int .i64 b.nd, .int .i64 b.lf]
abbrev bV (b : Bt) : Value := .agg (bC b)
abbrev rC (p a : Bt) (v : Value) : Array Value := #[.int .i64 p.n, .int .i64 p.nd, .int .i64 p.lf, .int .i64 a.n, .int .i64 a.nd, .int .i64 a.lf, v]
abbrev rV (p a : Bt) (v : Value) : Value := .agg (rC p a v)
theorem info_bt (b : Bt) : (Try.prog.info? 38).map (·.size) = some (bC b).size := by kernel_rfl
theorem info_rg (p a : Bt) (v : Value) : (Try.prog.info? 40).map (·.size) = some (rC p a v).size := by kernel_rfl
theorem ok_foldB (p : Prop) [Decidable p] (b : Bool) (w : World) : (if p then Result.ok b w else Result.ok false w) = Result.ok (decide p && b) w := by
  by_cases h : p <;> simp [h]

set_option maxHeartbeats 400000 in
theorem bless_any (a b : Bt) (w : World) : Calls Try.prog 61 #[bV a, bV b] w fun e w' => e = .returned (.bool (lt3 a b)) ∧ Below w.heap.size w w' := by
  obtain ⟨a0, a1, a2⟩ := a
  obtain ⟨b0, b1, b2⟩ := b
  by_cases c : a0 = b0
  · by_cases d : a1 = b1
    · have hc : (a0 != b0) = false := by simp [c]
      have hd : (a1 != b1) = false := by simp [d]
      have HF : Hid (decide (a2 < b2) = lt3 ⟨a0, a1, a2⟩ ⟨b0, b1, b2⟩) := by show _ = _; unfold lt3; rw [decide_eq_decide]; dsimp only; omega
      clear c d
      go_enter Try.func61, Try.ntmps61
      go_wp2_with fail
      go_ret
      exact ⟨ret_bool HF.out, by repeat (first | exact Below.refl _ _ | refine ab_alloc ?_ _)⟩
    · have hc : (a0 != b0) = false := by simp [c]
      have hd : (a1 != b1) = true := by simp [d]
      have HF : Hid (decide (a1 < b1) = lt3 ⟨a0, a1, a2⟩ ⟨b0, b1, b2⟩) := by show _ = _; unfold lt3; rw [decide_eq_decide]; dsimp only; omega
      clear c d
      go_enter Try.func61, Try.ntmps61
      go_wp2_with fail
      go_ret
      exact ⟨ret_bool HF.out, by repeat (first | exact Below.refl _ _ | refine ab_alloc ?_ _)⟩
  · have hc : (a0 != b0) = true := by simp [c]
    have HF : Hid (decide (a0 < b0) = lt3 ⟨a0, a1, a2⟩ ⟨b0, b1, b2⟩) := by show _ = _; unfold lt3; rw [decide_eq_decide]; dsimp only; omega
    clear c
    go_enter Try.func61, Try.ntmps61
    go_wp2_with fail
    go_ret
    exact ⟨ret_bool HF.out, by repeat (first | exact Below.refl _ _ | refine ab_alloc ?_ _)⟩
set_option maxHeartbeats 400000 in
theorem rbless_any (a b : Bt) (w : World) : Calls Try.prog 13 #[bV a, bV b] w fun e w' => e = .returned (.bool (lt3 a b)) ∧ Below w.heap.size w w' := by
  obtain ⟨a0, a1, a2⟩ := a
  obtain ⟨b0, b1, b2⟩ := b
  by_cases c : a0 = b0
  · by_cases d : a1 = b1
    · have hc : (a0 != b0) = false := by simp [c]
      have hd : (a1 != b1) = false := by simp [d]
      have HF : Hid (decide (a2 < b2) = lt3 ⟨a0, a1, a2⟩ ⟨b0, b1, b2⟩) := by show _ = _; unfold lt3; rw [decide_eq_decide]; dsimp only; omega
      clear c d
      go_enter Try.func13, Try.ntmps13
      go_wp2_with fail
      go_ret
      exact ⟨ret_bool HF.out, by repeat (first | exact Below.refl _ _ | refine ab_alloc ?_ _)⟩
    · have hc : (a0 != b0) = false := by simp [c]
      have hd : (a1 != b1) = true := by simp [d]
      have HF : Hid (decide (a1 < b1) = lt3 ⟨a0, a1, a2⟩ ⟨b0, b1, b2⟩) := by show _ = _; unfold lt3; rw [decide_eq_decide]; dsimp only; omega
      clear c d
      go_enter Try.func13, Try.ntmps13
      go_wp2_with fail
      go_ret
      exact ⟨ret_bool HF.out, by repeat (first | exact Below.refl _ _ | refine ab_alloc ?_ _)⟩
  · have hc : (a0 != b0) = true := by simp [c]
    have HF : Hid (decide (a0 < b0) = lt3 ⟨a0, a1, a2⟩ ⟨b0, b1, b2⟩) := by show _ = _; unfold lt3; rw [decide_eq_decide]; dsimp only; omega
    clear c
    go_enter Try.func13, Try.ntmps13
    go_wp2_with fail
    go_ret
    exact ⟨ret_bool HF.out, by repeat (first | exact Below.refl _ _ | refine ab_alloc ?_ _)⟩
theorem and3 (x y z : Int) : (decide (x = 0) && (decide (y = 0) && decide (z = 0))) = noB ⟨x, y, z⟩ := by
  unfold noB
  rw [Bool.eq_iff_iff]
  simp
theorem wh_1 {b : Bt} (h : ¬ 0 ≤ b.n) : whB b = false := by unfold whB; exact decide_eq_false (by omega)
theorem wh_2 {b : Bt} (h : ¬ 0 ≤ b.nd) : whB b = false := by unfold whB; exact decide_eq_false (by omega)
theorem wh_3 {b : Bt} (h0 : 0 ≤ b.n) (h1 : 0 ≤ b.nd) : decide (0 ≤ b.lf) = whB b := by unfold whB; rw [decide_eq_decide]; omega
set_option maxHeartbeats 400000 in
theorem whole_any (b : Bt) (w : World) : Calls Try.prog 71 #[bV b] w fun e w' => e = .returned (.bool (whB b)) ∧ Below w.heap.size w w' := by
  by_cases c : 0 ≤ b.n
  · by_cases d : 0 ≤ b.nd
    · have HF : Hid (decide (0 ≤ b.lf) = whB b) := wh_3 c d
      go_enter Try.func71, Try.ntmps71
      go_wp2_with fail
      go_ret
      exact ⟨ret_bool HF.out, ab_alloc (Below.refl _ _) _⟩
    · have HF : Hid (whB b = false) := wh_2 d
      go_enter Try.func71, Try.ntmps71
      go_wp2_with fail
      go_ret
      exact ⟨ret_bool HF.out.symm, ab_alloc (Below.refl _ _) _⟩
  · have HF : Hid (whB b = false) := wh_1 c
    go_enter Try.func71, Try.ntmps71
    go_wp2_with fail
    go_ret
    exact ⟨ret_bool HF.out.symm, ab_alloc (Below.refl _ _) _⟩
set_option maxHeartbeats 400000 in
theorem sound_any (b : Bt) (w : World) : Calls Try.prog 31 #[bV b] w fun e w' => e = .returned (.bool (whB b)) ∧ Below w.heap.size w w' := by
  by_cases c : 0 ≤ b.n
  · by_cases d : 0 ≤ b.nd
    · have HF : Hid (decide (0 ≤ b.lf) = whB b) := wh_3 c d
      go_enter Try.func31, Try.ntmps31
      go_wp2_with fail
      go_ret
      exact ⟨ret_bool HF.out, ab_alloc (Below.refl _ _) _⟩
    · have HF : Hid (whB b = false) := wh_2 d
      go_enter Try.func31, Try.ntmps31
      go_wp2_with fail
      go_ret
      exact ⟨ret_bool HF.out.symm, ab_alloc (Below.refl _ _) _⟩
  · have HF : Hid (whB b = false) := wh_1 c
    go_enter Try.func31, Try.ntmps31
    go_wp2_with fail
    go_ret
    exact ⟨ret_bool HF.out.symm, ab_alloc (Below.refl _ _) _⟩
section
attribute [local go_sem] ok_foldB
set_option maxHeartbeats 400000 in
theorem isNone_any (b : Bt) (w : World) : Calls Try.prog 72 #[bV b] w fun e w' => e = .returned (.bool (noB b)) ∧ Below w.heap.size w w' := by
  go_enter Try.func72, Try.ntmps72
  go_wp2_with fail
  go_ret
  exact ⟨ret_bool (and3 _ _ _), ab_alloc (Below.refl _ _) _⟩
end
/-- Three, seven cells of a block, in every world in which nothing of it has turned. -/
theorem cells3 {W : World} {g : Nat} {b : Bt} {t : TypeId} (h : Blk W g (bC b) t) : (∀ V, Below W.heap.size W V → V.cell? ⟨g, 0, none⟩ = some (.int .i64 b.n)) ∧ (∀ V, Below W.heap.size W V → V.cell? ⟨g, 1, none⟩ = some (.int .i64 b.nd)) ∧ (∀ V, Below W.heap.size W V → V.cell? ⟨g, 2, none⟩ = some (.int .i64 b.lf)) :=
  ⟨fun V hb => (h.keep hb).at rfl, fun V hb => (h.keep hb).at rfl, fun V hb => (h.keep hb).at rfl⟩
theorem cells7 {W : World} {g : Nat} {p a : Bt} {v : Value} {t : TypeId} (h : Blk W g (rC p a v) t) : (∀ V, Below W.heap.size W V → V.cell? ⟨g, 0, none⟩ = some (.int .i64 p.n)) ∧ (∀ V, Below W.heap.size W V → V.cell? ⟨g, 1, none⟩ = some (.int .i64 p.nd)) ∧ (∀ V, Below W.heap.size W V → V.cell? ⟨g, 2, none⟩ = some (.int .i64 p.lf)) ∧
    (∀ V, Below W.heap.size W V → V.cell? ⟨g, 3, none⟩ = some (.int .i64 a.n)) ∧ (∀ V, Below W.heap.size W V → V.cell? ⟨g, 4, none⟩ = some (.int .i64 a.nd)) ∧ (∀ V, Below W.heap.size W V → V.cell? ⟨g, 5, none⟩ = some (.int .i64 a.lf)) ∧ (∀ V, Below W.heap.size W V → V.cell? ⟨g, 6, none⟩ = some v) :=
  ⟨fun V hb => (h.keep hb).at rfl, fun V hb => (h.keep hb).at rfl, fun V hb => (h.keep hb).at rfl, fun V hb => (h.keep hb).at rfl, fun V hb => (h.keep hb).at rfl, fun V hb => (h.keep hb).at rfl, fun V hb => (h.keep hb).at rfl⟩
set_option maxHeartbeats 400000 in
theorem asks_any (b : Bt) (w : World) : Calls Try.prog 60 #[bV b] w fun e w' => e = .returned (.bool (asB b)) ∧ Below w.heap.size w w' := by
  go_enter Try.func60, Try.ntmps60
  go_upto_region 1 with fail
  obtain ⟨A, hAe, hB, hw⟩ := blk1 w (bC b) 38
  rw [hAe]
  obtain ⟨c0, c1, c2⟩ := cells3 hB
  have hbv := Below.refl A.heap.size A
  clear hAe hB
  go_wp2_with fail
  refine (whole_any b _).mono ?_
  rintro e W1 ⟨rfl, b1⟩
  have hbv := ab_trans hbv b1
  cases h1 : whB b
  · have HF : Hid (asB b = false) := by show _ = _; unfold asB; rw [h1]; rfl
    go_wp2_with fail
    go_ret
    exact ⟨ret_bool HF.out.symm, ab_trans hw hbv⟩
  · have HF : Hid ((!noB b) = asB b) := by show _ = _; unfold asB; rw [h1]; rfl
    go_wp2_with fail
    refine (isNone_any b _).mono ?_
    rintro e W2 ⟨rfl, b2⟩
    have hbv := ab_trans hbv b2
    go_wp2_with fail
    go_ret
    exact ⟨ret_bool HF.out, ab_trans hw hbv⟩
def nxB (b : Bt) (d f : Int) : Bt := ⟨wrap64 (b.n + 1), d, f⟩
theorem gd_1 {p a : Bt} {n : Nat} (h : whB p = false) : gdN p a n = false := by unfold gdN; rw [h]; rfl
theorem gd_2 {p a : Bt} {n : Nat} (h : whB a = false) : gdN p a n = false := by unfold gdN; rw [h]; simp
theorem gd_3 {p a : Bt} {n : Nat} (h : lt3 p a = true) : gdN p a n = false := by unfold gdN; rw [h]; simp
theorem gd_4 {p a : Bt} {n : Nat} (h1 : whB p = true) (h2 : whB a = true) (h3 : lt3 p a = false) (h4 : noB a = true) : decide (n = 0) = gdN p a n := by unfold gdN; rw [h1, h2, h3, h4]; simp
theorem gd_5 {p a : Bt} {n : Nat} (h1 : whB p = true) (h2 : whB a = true) (h3 : lt3 p a = false) (h4 : noB a = false) : decide (n ≤ 32) = gdN p a n := by unfold gdN; rw [h1, h2, h3, h4]; simp
set_option maxHeartbeats 400000 in
theorem good9_any (p a : Bt) (q : Option Addr) (n c : Nat) (w : World) : Calls Try.prog 55 #[rV p a (.slice q n c)] w fun e w' => e = .returned (.bool (gdN p a n)) ∧ Below w.heap.size w w' := by
  go_enter Try.func55, Try.ntmps55
  go_upto_region 1 with fail
  obtain ⟨A, hAe, hB, hw⟩ := blk1 w (rC p a (.slice q n c)) 40
  rw [hAe]
  obtain ⟨c0, c1, c2, c3, c4, c5, c6⟩ := cells7 hB
  have hbv := Below.refl A.heap.size A
  clear hAe hB
  go_wp2_with fail
  refine (whole_any p _).mono ?_
  rintro e W1 ⟨rfl, b1⟩
  have hbv := ab_trans hbv b1
  cases h1 : whB p
  · have HF : Hid (gdN p a n = false) := gd_1 h1
    go_wp2_with fail
    go_ret
    exact ⟨ret_bool HF.out.symm, ab_trans hw hbv⟩
  · go_wp2_with fail
    refine (whole_any a _).mono ?_
    rintro e W2 ⟨rfl, b2⟩
    have hbv := ab_trans hbv b2
    cases h2 : whB a
    · have HF : Hid (gdN p a n = false) := gd_2 h2
      go_wp2_with fail
      go_ret
      exact ⟨ret_bool HF.out.symm, ab_trans hw hbv⟩
    · go_wp2_with fail
      refine (bless_any p a _).mono ?_
      rintro e W3 ⟨rfl, b3⟩
      have hbv := ab_trans hbv b3
      cases h3 : lt3 p a
      · go_wp2_with fail
        refine (isNone_any a _).mono ?_
        rintro e W4 ⟨rfl, b4⟩
        have hbv := ab_trans hbv b4
        cases h4 : noB a
        · have HF : Hid (decide (n ≤ 32) = gdN p a n) := gd_5 h1 h2 h3 h4
          go_wp2_with fail
          go_ret
          refine ⟨ret_bool (Eq.trans ?_ HF.out), ab_trans hw hbv⟩
          rw [decide_eq_decide]; omega
        · have HF : Hid (decide (n = 0) = gdN p a n) := gd_4 h1 h2 h3 h4
          go_wp2_with fail
          go_ret
          refine ⟨ret_bool (Eq.trans ?_ HF.out), ab_trans hw hbv⟩
          first | (rw [decide_eq_decide]; omega) | (rw [Bool.eq_iff_iff]; simp)
      · have HF : Hid (gdN p a n = false) := gd_3 h3
        go_wp2_with fail
        go_ret
        exact ⟨ret_bool HF.out.symm, ab_trans hw hbv⟩
end Go.Proofs.Ytlhamckpgijjmaa
