/-
  What the laws on tenure share: same; '==' of leases.
-/
import Derived.Test.YtddpdmolknfjaaaTnD
import Derived.Test.YtddpdmolknfjaaaChL
namespace Go.Proofs.Ytddpdmolknfjaaa
open Go.RowKit
set_option linter.unusedVariables false
set_option maxRecDepth 100000

theorem eqLe (x : Le) (w : World) : (binOp .eql 29 (leV x) (leV x)).run Try.prog w = .ok (.bool true) w := by simp [go_sem]
theorem neLe (x : Le) (w : World) : (binOp .neq 29 (leV x) (leV x)).run Try.prog w = .ok (.bool false) w := by simp [go_sem]
/-- The same changes. -/
def smC (k k' : Int) (o o' n n' : List Int) : Bool := decide (k = k') && (decide (o = o') && decide (n = n'))
set_option maxHeartbeats 2000000 in
theorem tsame_any (k k' : Int) (vo vn vo' vn' : Value) (o o' n n' : List Int) (w : World) (ho : Is w vo o) (hn : Is w vn n) (ho' : Is w vo' o') (hn' : Is w vn' n') (z1 : o.length ≤ 100000) (z2 : n.length ≤ 100000) (z3 : o'.length ≤ 100000) (z4 : n'.length ≤ 100000) :
    Calls Try.prog 23 #[cgV k vo vn, cgV k' vo' vn'] w fun e w' => e = .returned (.bool (smC k k' o o' n n')) ∧ Below w.heap.size w w' := by
  obtain ⟨q1, c1, e⟩ := ho.form; subst e
  obtain ⟨q2, c2, e⟩ := hn.form; subst e
  obtain ⟨q3, c3, e⟩ := ho'.form; subst e
  obtain ⟨q4, c4, e⟩ := hn'.form; subst e
  generalize j1 : o.length = n1 at *
  generalize j2 : n.length = n2 at *
  generalize j3 : o'.length = n3 at *
  generalize j4 : n'.length = n4 at *
  obtain ⟨A, hAe, hB1, hB2, hw⟩ := blk2 w (cgC k (.slice q1 n1 c1) (.slice q2 n2 c2)) (cgC k' (.slice q3 n3 c3) (.slice q4 n4 c4)) 51 51
  go_enter Try.func23, Try.ntmps23
  go_upto_region 1 with fail
  obtain ⟨x0, x1, x2⟩ := cellsG hB1
  obtain ⟨y0, y1, y2⟩ := cellsG hB2
  have X0 := x0 _ (Below.refl _ _)
  have Y0 := y0 _ (Below.refl _ _)
  have X1 := x1 _ (Below.refl _ _)
  have Y1 := y1 _ (Below.refl _ _)
  clear hAe x0 x1 y0 y1
  by_cases hk : k = k'
  rotate_left
  · have HN : Hid (false = smC k k' o o' n n') := by show false = _; unfold smC; rw [decide_eq_false hk]; rfl
    have hk2 : (k == k') = false := by simp [hk]
    clear hk
    go_wp2_with fail
    go_ret
    exact ⟨ret_bool HN.out, hw⟩
  have HK : Hid (k = k') := hk
  have hk2 : (k == k') = true := by simp [hk]
  clear hk
  go_wp2_with fail
  refine (gints_any _ _ o o' _ (ho.keep hw) (ho'.keep hw) (by omega) (by omega)).mono ?_
  rintro e V1 ⟨rfl, v1⟩
  by_cases h1 : o = o'
  rotate_left
  · have HN : Hid (false = smC k k' o o' n n') := by show false = _; unfold smC; rw [decide_eq_false h1, Bool.false_and, Bool.and_false]
    rw [decide_eq_false h1]
    clear h1
    go_wp2_with fail
    go_ret
    exact ⟨ret_bool HN.out, ab_trans hw v1⟩
  rw [decide_eq_true h1]
  have X2 := x2 V1 v1
  have Y2 := y2 V1 v1
  have HN : Hid (decide (n = n') = smC k k' o o' n n') := by show _ = _; unfold smC; rw [decide_eq_true h1, decide_eq_true HK.out]; rfl
  clear h1
  go_wp2_with fail
  have hb1 := ab_trans hw v1
  refine (gints_any _ _ n n' _ (hn.keep hb1) (hn'.keep hb1) (by omega) (by omega)).mono ?_
  rintro e V2 ⟨rfl, v2⟩
  go_wp2_with fail
  go_ret
  exact ⟨ret_bool HN.out, ab_trans hb1 v2⟩
/-- 'int(uint(x) % n)' -/
theorem mod_nat13 (x : Int) (n : Int) (h0 : 0 < n) (h1 : n ≤ 4096) : ∃ k : Nat, (k : Int) < n ∧ wrap64 ((IntKind.u64.wrap x).tmod n) = (k : Int) := by
  have hx : 0 ≤ IntKind.u64.wrap x := by rw [IntKind.wrap_u64]; omega
  have he : (IntKind.u64.wrap x).tmod n = IntKind.u64.wrap x % n := Int.tmod_eq_emod_of_nonneg hx
  have h2 := Int.emod_nonneg (IntKind.u64.wrap x) (show n ≠ 0 by omega)
  have h3 := Int.emod_lt_of_pos (IntKind.u64.wrap x) h0
  refine ⟨(IntKind.u64.wrap x % n).toNat, by omega, ?_⟩
  rw [he, Int.toNat_of_nonneg h2]
  generalize IntKind.u64.wrap x % n = r at *
  unfold wrap64
  omega
end Go.Proofs.Ytddpdmolknfjaaa
