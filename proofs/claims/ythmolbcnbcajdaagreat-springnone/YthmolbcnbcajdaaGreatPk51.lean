/-
  spring: rows of places in both forms; a cut that drops nothing.
-/
import Derived.Test.YthmolbcnbcajdaaGreatPk50
import Derived.Test.YthmolbcnbcajdaaGreatPk27
import Derived.Test.YthmolbcnbcajdaaGreatPk48
namespace Go.Proofs.YthmolbcnbcajdaaGreat
open Go.RowKit
set_option linter.unusedVariables false
set_option maxRecDepth 100000

/-- A place, as a pair. -/
def plP (p : Nat → Int) : Int × Int := (p 0, p 1)
def plF (p : Int × Int) : Nat → Int := fun i => if i = 0 then p.1 else p.2
theorem ag2 (c : Nat → Int) : (AG 2 k64 c).toList = E2.f (plP c) := rfl
theorem flat_plP (L : List (Nat → Int)) : flatA 2 k64 L = E2.fl (L.map plP) := by
  unfold flatA En.fl
  rw [List.flatMap_map]
  rfl
theorem flat_plF (l : List (Int × Int)) : flatA 2 k64 (l.map plF) = E2.fl l := by
  rw [flat_plP, List.map_map]
  congr 1
  conv => rhs; rw [← List.map_id l]
  refine List.map_congr_left fun p _ => ?_
  rfl
theorem so_eo {W : World} {base : Nat} {v : Value} {L : List (Nat → Int)} (h : SO 85 2 k64 W base v L) : EO E2 85 W base v (L.map plP) := by
  unfold SO at h
  rw [flat_plP] at h
  exact eo_of h
theorem spread_nums (l : List (Int × Int)) : (l.map plF).flatMap plN = l.flatMap (fun p => [p.1, p.2]) := by
  rw [List.flatMap_map]
  rfl
theorem er_sr {W : World} {v : Value} {l : List (Int × Int)} (h : ER E2 W v l) : SR 2 k64 W v (l.map plF) := by
  obtain ⟨q, cap, g, off, h1, h2, h3, h4, h5⟩ := h.at
  refine ⟨q, cap, g, off, by rw [List.length_map]; exact h1, by rw [List.length_map]; exact h2, h3, fun h => (h4 (by rwa [List.length_map] at h)).1, fun h => (h4 (by rwa [List.length_map] at h)).2, ?_⟩
  intro j c hj
  rw [List.getElem?_map] at hj
  cases hl : l[j]? with
  | none => rw [hl] at hj; cases hj
  | some p =>
    rw [hl] at hj
    cases hj
    intro i u hu
    exact h5 j p hl i u hu
set_option maxHeartbeats 2000000 in
theorem spcut_no {B d pb sb : Nat} {vr vh vc : Value} {S : Sm} {node chunk : Int} (vp : Value) (ps : List (Int × Int)) (w : World) (hk : Blk w pb (sgC d node chunk sb) 51) (h : Sq w B sb vr vh vc S) (hB : B ≤ w.heap.size) (hp : ER E2 w vp ps) (hN : ¬ (ps.length : Int) = lanS S) :
    Calls Tryz.prog 23 #[tptr pb, vp] w fun e w' => e = .returned (.tuple #[]) ∧ Below w.heap.size w w' := by
  obtain ⟨-, -, -, c3⟩ := sg_c hk
  have hcl := sclone_any w h hB
  obtain ⟨qp, cp, ep⟩ := hp.form
  subst ep
  go_enter Tryz.func23, Tryz.ntmps23
  go_upto_region 1 with (go_at_call 27; refine hcl.mono ?_; rintro e W1 ⟨b', vh', vc', rfl, h1, hn1, b1⟩)
  have hct := scut_no _ ps W1 h1 (hp.keep b1) hN
  clear hcl c3 hN
  go_upto_region 2 with (go_at_call 49; refine hct.mono ?_; rintro e W2 ⟨rfl, b2⟩)
  clear hct
  refine wp_region_held_drew (S := fun w' => Below W2.heap.size W2 w') (by kernel_rfl) (ab_drew (Below.refl _ _)) (fun hHeld => ?_)
  generalize W2.drew = V at *
  refine takeH (i := 0) (some 18) rfl rfl (by kernel_rfl) (by kernel_rfl) (by kernel_rfl) (fun _ _ _ h => h) (by rfl) (fun w hSw => by (try dsimp only at hSw); go_simp; try rfl) hHeld ?_
  go_frame
  refine takeH (i := 1) (some 19) rfl rfl (by kernel_rfl) (by kernel_rfl) (by kernel_rfl) (fun _ _ _ h => h) (by rfl) (fun w hSw => by (try dsimp only at hSw); go_simp; try rfl) hHeld ?_
  go_frame
  refine takeH (i := 2) (some 20) rfl rfl (by kernel_rfl) (by kernel_rfl) (by kernel_rfl) (fun _ _ _ h => h) (by rfl) (fun w hSw => by (try dsimp only at hSw); go_simp; try rfl) hHeld ?_
  go_frame
  refine skipH (i := 3) (some 21) rfl rfl (by kernel_rfl) (by kernel_rfl) (by kernel_rfl) (fun _ _ _ h => h) (by rfl) hHeld ?_
  go_frame
  refine skipH (i := 4) (some 22) rfl rfl (by kernel_rfl) (by kernel_rfl) (by kernel_rfl) (fun _ _ _ h => h) (by rfl) hHeld ?_
  go_frame
  refine skipH (i := 5) (some 23) rfl rfl (by kernel_rfl) (by kernel_rfl) (by kernel_rfl) (fun _ _ _ h => h) (by rfl) hHeld ?_
  go_frame
  refine skipH (i := 6) (some 24) rfl rfl (by kernel_rfl) (by kernel_rfl) (by kernel_rfl) (fun _ _ _ h => h) (by rfl) hHeld ?_
  go_frame
  refine skipH (i := 7) (some 25) rfl rfl (by kernel_rfl) (by kernel_rfl) (by kernel_rfl) (fun _ _ _ h => h) (by rfl) hHeld ?_
  go_frame
  refine skipH (i := 8) (some 26) rfl rfl (by kernel_rfl) (by kernel_rfl) (by kernel_rfl) (fun _ _ _ h => h) (by rfl) hHeld ?_
  go_frame
  refine skipH (i := 9) (some 27) rfl rfl (by kernel_rfl) (by kernel_rfl) (by kernel_rfl) (fun _ _ _ h => h) (by rfl) hHeld ?_
  go_frame
  refine skipH (i := 10) (some 28) rfl rfl (by kernel_rfl) (by kernel_rfl) (by kernel_rfl) (fun _ _ _ h => h) (by rfl) hHeld ?_
  go_frame
  refine takeH (i := 11) (some 29) rfl rfl (by kernel_rfl) (by kernel_rfl) (by kernel_rfl) (fun _ _ _ h => h) (by rfl) (fun w hSw => by (try dsimp only at hSw); go_simp; try rfl) hHeld ?_
  go_frame
  refine wpAnyH_done (by kernel_rfl) ?_ _
  go_wp2_with fail
  refine bodyPost_end (results_none rfl _ _ _) rfl ?_
  exact ⟨rfl, ab_trans (ab_trans b1 b2) hHeld⟩
end Go.Proofs.YthmolbcnbcajdaaGreat
