/-
  The cell of one sample: cell.One.
  The chapter's examples: estuarylaw02.alive returns true.
-/
import Derived.Test.YthmolbcnbcajdaaGreatPk31
import Derived.Test.YthmolbcnbcajdaaGreatPk11
import Derived.Deep.RegionHeld3
import Derived.Maps.RangeWalk
import Derived.Deep.CutRange
namespace Go.Proofs.YthmolbcnbcajdaaGreat
set_option maxRecDepth 100000
open Go.RowKit Go.Shelf
set_option linter.unusedVariables false

/-- The numbers of a sample's cell that aren't of the Hist. -/
def oneH (s q t v : Int) : Nat → Int := fun i =>
  if i = 0 then 1 else if i = 1 then wh v else if i = 2 then wl v else if i = 3 then v else if i = 4 then v
  else if i = 5 then t else if i = 6 then s else if i = 7 then q else if i = 8 then v else 0
/-- The cell of a sample. -/
def oneF (s q t v : Int) : Nat → Int := cup (oneH s q t v) (9 + Lib.bitLen v.natAbs) 1

theorem built_one (s q t v h l : Int) : Tryz.prog.built 182 [(0, .int .i64 1), (1, .agg #[.int .i64 h, .int .u64 l]), (2, .int .i64 v), (3, .int .i64 v), (4, .agg #[.int .i64 t, .int .i64 s, .int .i64 q, .int .i64 v])] =
    some (CA (fun i => if i = 0 then 1 else if i = 1 then h else if i = 2 then l else if i = 3 then v else if i = 4 then v
      else if i = 5 then t else if i = 6 then s else if i = 7 then q else if i = 8 then v else 0)) := by kernel_rfl

end Go.Proofs.YthmolbcnbcajdaaGreat
namespace Go.Proofs.YthmolbcnbcajdaaGreat
set_option maxRecDepth 100000
open Go.RowKit Go.Shelf
set_option linter.unusedVariables false

theorem crow2 {W : World} {g : Nat} {x y : Nat → Int} {t : TypeId} (h : Blk W g (CA x ++ CA y) t) : CRow W g 0 [x, y] := by
  intro j c hc i v hv
  rw [h.cell]
  match j with
  | 0 =>
    simp at hc; subst hc
    have hi : i < 74 := by have := (List.getElem?_eq_some_iff.1 hv).1; simpa [CA_size] using this
    rw [Nat.zero_mul, Nat.zero_add, Array.getElem?_append_left (by rw [CA_size]; exact hi)]; simpa using hv
  | 1 =>
    simp at hc; subst hc
    have hi : i < 74 := by have := (List.getElem?_eq_some_iff.1 hv).1; simpa [CA_size] using this
    rw [Nat.one_mul, Nat.zero_add, Array.getElem?_append_right (by rw [CA_size]; omega), CA_size, Nat.add_sub_cancel_left]; simpa using hv
  | n + 2 => simp at hc
theorem wf_one (s q t v : Int) (hs : -9223372036854775808 ≤ s ∧ s ≤ 9223372036854775807) (hq : -9223372036854775808 ≤ q ∧ q ≤ 9223372036854775807) (ht : -9223372036854775808 ≤ t ∧ t ≤ 9223372036854775807) (hv : -9223372036854775808 ≤ v ∧ v ≤ 9223372036854775807) : Wf (oneF s q t v) := by
  have hh := wh_bd v
  have hl := wl_bd v
  refine ⟨?_, fun i hi h2 => ?_⟩
  · have : oneF s q t v 2 = wl v := by unfold oneF; rw [cup_ne _ _ _ _ (by omega)]; rfl
    rw [this]; exact hl
  · unfold oneF cup oneH
    repeat' split
    all_goals omega

end Go.Proofs.YthmolbcnbcajdaaGreat
