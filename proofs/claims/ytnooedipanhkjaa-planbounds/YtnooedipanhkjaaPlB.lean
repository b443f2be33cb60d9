/-
  Each number of a plan has its bounds, and one beyond them makes a good plan none: estuarylaw19.PlanBounds returns true for every input; no condition.
-/
import Derived.Test.YtnooedipanhkjaaPnH
import Derived.Test.YtnooedipanhkjaaFrx
import Derived.Test.YtnooedipanhkjaaRegL
import Derived.ProofKit
import Derived.OpenShut
import Derived.ChangeOld
import Derived.Below
namespace Go.Proofs.Ytnooedipanhkjaa.planBounds
open Go.ChangeShapes Go.WideShapes Go.ChangeAt Go.RowKit Go.Joins
set_option linter.unusedVariables false
set_option maxRecDepth 100000

theorem few (r : Int) : ∃ R : Nat, wrap64 (1 + wrap64 ((IntKind.u64.wrap r).tmod 1000)) = (R : Int) ∧ 1 ≤ R ∧ R ≤ 1000 := by
  have h2 : 0 ≤ IntKind.u64.wrap r := by simp [IntKind.wrap, IntKind.signed, IntKind.bits] <;> omega
  have h3 := Int.tmod_nonneg 1000 h2
  have h4 := Int.tmod_lt_of_pos (IntKind.u64.wrap r) (b := 1000) (by omega)
  generalize (IntKind.u64.wrap r).tmod 1000 = x at *
  refine ⟨(1 + x).toNat, ?_, by omega, by omega⟩
  unfold wrap64; omega
theorem eight (r : Int) : ∃ q : Nat, (IntKind.u64.wrap r).tmod 8 = (q : Int) ∧ q < 8 := by
  have h2 : 0 ≤ IntKind.u64.wrap r := by simp [IntKind.wrap, IntKind.signed, IntKind.bits] <;> omega
  have h3 := Int.tmod_nonneg 8 h2
  have h4 := Int.tmod_lt_of_pos (IntKind.u64.wrap r) (b := 8) (by omega)
  exact ⟨((IntKind.u64.wrap r).tmod 8).toNat, by omega, by omega⟩
abbrev lowP (v : Value) : Pn := ⟨1, 1, v, [1], 1, 1, 1, 1, 1⟩
abbrev highP (v : Value) : Pn := ⟨4, 5, v, [9223372036854775807, 1, 7], 4, 64, 1024, 16, 20⟩
theorem low_good (v : Value) : gdP (lowP v) = true := rfl
theorem high_good (v : Value) : gdP (highP v) = true := rfl
theorem low_n (v : Value) : pnS (lowP v) + pnT (lowP v) + pnK (lowP v) + pnI (lowP v) = 5 := rfl
theorem high_n (v : Value) : pnS (highP v) + pnT (highP v) + pnK (highP v) + pnI (highP v) = 12 := rfl
theorem high_l (v : Value) : lnP (highP v) = 12 := rfl
theorem ne19_both (w : World) : (binOp .neq 27 (Err 14) (Err 14)).run Try.prog w = .ok (.bool false) w := by kernel_rfl
theorem noI_plan {W : World} {b : Nat} {xs : Array Value} (h : Blk W b xs 24) : NoI (fun k => k = b) W := by
  rintro k rfl hk
  exact absurd (h.kindR.uniq hk) (by decide)
theorem Io.chgP {W W' : World} {B b : Nat} {v : Value} {l : List Int} {xs : Array Value} (h : Io W B v l) (hB : Blk W b xs 24) (hc : Chg b W W') : Io W' B v l := Io.frm (X := fun k => k = b) h (frm_chg hc rfl) (noI_plan hB)
/-- What the rounds hand on. -/
structure Rnd (B bl bh bs h1 h4 k : Nat) (W : World) : Prop where
  lo : k = 0 → Blk W bl (pnC (lowP (.slice (some ⟨h1, 0, none⟩) 1 1))) 24
  hi : k ≤ 1 → Blk W bh (pnC (highP (.slice (some ⟨h4, 0, none⟩) 3 3))) 24
  ps : Blk W bs #[.pointer (some ⟨bl, 0, none⟩), .pointer (some ⟨bh, 0, none⟩)] 46
  il : k = 0 → Io W B (.slice (some ⟨h1, 0, none⟩) 1 1) [1]
  ih : k ≤ 1 → Io W B (.slice (some ⟨h4, 0, none⟩) 3 3) [9223372036854775807, 1, 7]
theorem Rnd.keep {B bl bh bs h1 h4 k : Nat} {W W' : World} (h : Rnd B bl bh bs h1 h4 k W) (c : Below W.heap.size W W') : Rnd B bl bh bs h1 h4 k W' :=
  ⟨fun e => (h.lo e).keep c, fun e => (h.hi e).keep c, h.ps.keep c, fun e => (h.il e).keep c, fun e => (h.ih e).keep c⟩
theorem Rnd.next0 {B bl bh bs h1 h4 : Nat} {W W' : World} (h : Rnd B bl bh bs h1 h4 0 W) (hc : Chg bl W W') (n1 : bl < bh) (n2 : bl < bs) : Rnd B bl bh bs h1 h4 1 W' :=
  ⟨fun e => by omega, fun _ => (h.hi (by omega)).chg hc (by omega), h.ps.chg hc (by omega), fun e => by omega, fun _ => Io.chgP (h.ih (by omega)) (h.lo rfl) hc⟩
theorem Rnd.next1 {B bl bh bs h1 h4 : Nat} {W W' : World} (h : Rnd B bl bh bs h1 h4 1 W) (hc : Chg bh W W') (n2 : bh < bs) : Rnd B bl bh bs h1 h4 2 W' :=
  ⟨fun e => by omega, fun e => by omega, h.ps.chg hc (by omega), fun e => by omega, fun e => by omega⟩
theorem Rnd.next0f {B bl bh bs h1 h4 : Nat} {W W' : World} (h : Rnd B bl bh bs h1 h4 0 W) (hf : Frm (fun k => k = bl ∨ k = h1) W W') (n1 : bl < bh) (n2 : bl < bs) (n3 : h1 < h4) : Rnd B bl bh bs h1 h4 1 W' := by
  have k1 : kindR W h1 3 := own_kindR (h.il rfl) rfl
  have k4 : kindR W h4 3 := own_kindR (h.ih (by omega)) rfl
  refine ⟨fun e => by omega, fun _ => ?_, ?_, fun e => by omega, fun _ => ?_⟩
  · refine (h.hi (by omega)).frm hf ?_
    rintro (e | e)
    · omega
    · exact absurd ((h.hi (by omega)).kindR.uniq (e ▸ k1)) (by decide)
  · refine h.ps.frm hf ?_
    rintro (e | e)
    · omega
    · exact absurd (h.ps.kindR.uniq (e ▸ k1)) (by decide)
  · refine own_at (h.ih (by omega)) fun g hg => hf.other g (Io.lt (h.ih (by omega)) g hg).2 ?_
    have eg : h4 = g := by simpa [Value.ownBlock] using hg
    subst eg
    rintro (e | e)
    · exact absurd ((h.lo rfl).kindR.uniq (e ▸ k4)) (by decide)
    · omega
theorem Rnd.next1f {B bl bh bs h1 h4 : Nat} {W W' : World} (h : Rnd B bl bh bs h1 h4 1 W) (hf : Frm (fun k => k = bh ∨ k = h4) W W') (n2 : bh < bs) : Rnd B bl bh bs h1 h4 2 W' := by
  have k4 : kindR W h4 3 := own_kindR (h.ih (by omega)) rfl
  refine ⟨fun e => by omega, fun e => by omega, ?_, fun e => by omega, fun e => by omega⟩
  refine h.ps.frm hf ?_
  rintro (e | e)
  · omega
  · exact absurd (h.ps.kindR.uniq (e ▸ k4)) (by decide)
theorem bad3 {p : Pn} {V2 : World} (hg : gdP p = false) (hI : Is V2 p.v p.l) :
    (∀ V, Below V2.heap.size V2 V → Calls Try.prog 9 #[pnV p] V fun e w' => e = .returned (Err 14) ∧ Below V.heap.size V w') ∧
    (∀ V, Below V2.heap.size V2 V → Calls Try.prog 12 #[pnV p] V fun e w' => e = .returned (.int .i64 0) ∧ Below V.heap.size V w') ∧
    (∀ V, Below V2.heap.size V2 V → Calls Try.prog 11 #[pnV p] V fun e w' => e = .returned (.int .i64 0) ∧ Below V.heap.size V w') := by
  refine ⟨fun V hV => ?_, fun V hV => ?_, fun V hV => ?_⟩
  · have := pcheck_any p V (hI.keep hV)
    rw [hg, if_neg (by decide)] at this
    exact this
  · have := pnodes_any p V (hI.keep hV)
    obtain ⟨n1, n2, n3, n4⟩ := n_no hg
    rw [n1, n2, n3, n4] at this
    exact this
  · have := planes_any p V (hI.keep hV)
    rw [show lnP p = 0 by unfold lnP; rw [hg]; rfl] at this
    exact this
theorem gd_not {p : Pn} (h : ¬ ((1 ≤ p.so ∧ p.so ≤ 4) ∧ (p.ke = 1 ∨ p.ke = 3 ∨ p.ke = 5) ∧ (1 ≤ (p.l.length : Int) ∧ (p.l.length : Int) ≤ 3) ∧ (∀ x ∈ p.l, 1 ≤ x) ∧ (1 ≤ p.sh ∧ p.sh ≤ 4) ∧ (1 ≤ p.ho ∧ p.ho ≤ 64) ∧ (1 ≤ p.ce ∧ p.ce ≤ 1024) ∧ (1 ≤ p.ba ∧ p.ba ≤ 16) ∧ (1 ≤ p.le ∧ p.le ≤ 20))) : gdP p = false := by
  cases hg : gdP p
  · rfl
  · exact absurd (gd_iff.1 hg) h
set_option maxHeartbeats 8000000 in
theorem walk (q : Int) (hq : -9223372036854775808 ≤ q ∧ q ≤ 9223372036854775807) (by_ : Int) (hby : -9223372036854775808 ≤ by_ ∧ by_ ≤ 9223372036854775807) (W : World) :
    Calls Try.prog 7 #[.int .i64 q, .int .i64 by_] W fun e w' => e = .returned (.bool true) ∧ Below W.heap.size W w' := by
  obtain ⟨K, hK8, K8⟩ := eight q
  obtain ⟨D, hD, D1, D2⟩ := few by_
  go_enter Try.func7, Try.ntmps7
  go_upto_region 3 with (go_at_call 8; refine (alive19_any _).mono ?_; rintro e W1 ⟨rfl, b1⟩)
  go_upto_region 4 with (first
    | (refine bs_own rfl rfl [1] (by simp only [List.map_toArray, List.map_cons, List.map_nil]; rfl) (isl1 _ _) rfl (by decide) ?_; intro W2 own2 b2 z1; clear z1)
    | (refine al_blk rfl rfl zeroP (zero_pn _) ?_; intro W3 eW hZ b3; clear eW)
    | (refine st_blk rfl rfl hZ rfl rfl info_pn rfl (by simp [Value.oneCell']) ?_; intro W4 hL C4))
  have hl1 : W2.heap.size ≤ W3.heap.size := b3.size
  have hlt1 : W1.heap.size ≤ W2.heap.size := b2.size
  have b14 : Below W1.heap.size W1 W4 := ab_chg (ab_trans b2 b3) C4 (by have := b2.size; omega)
  have hl4 : W1.heap.size < W4.heap.size := by have h : W1.heap.size < W2.heap.size := ((io_of own2).lt W1.heap.size rfl).2; have := C4.size; omega
  have hv4 : Io W4 W.heap.size (.slice (some ⟨W1.heap.size, 0, none⟩) 1 1) [1] := ((io_of own2).less b1.size).keep (ab_chg b3 C4 (Nat.le_refl _))
  clear hZ b2 b3 C4 own2 hl1
  go_upto_region 5 with (first
    | (refine bs_own rfl rfl [9223372036854775807, 1, 7] (by simp only [List.map_toArray, List.map_cons, List.map_nil]; rfl) (isl3 _ _ _ _) rfl (by decide) ?_; intro W5 own5 b5 z1; clear z1)
    | (refine al_blk rfl rfl zeroP (zero_pn _) ?_; intro W6 eW hZ b6; clear eW)
    | (refine st_blk rfl rfl hZ rfl rfl info_pn rfl (by simp [Value.oneCell']) ?_; intro W7 hH C7))
  have hl2 : W5.heap.size ≤ W6.heap.size := b6.size
  have b47 : Below W4.heap.size W4 W7 := ab_chg (ab_trans b5 b6) C7 (by have := b5.size; omega)
  have hv7 : Io W7 W.heap.size (.slice (some ⟨W4.heap.size, 0, none⟩) 3 3) [9223372036854775807, 1, 7] := ((io_of own5).less (Nat.le_trans b1.size b14.size)).keep (ab_chg b6 C7 (Nat.le_refl _))
  have hw5 := hL.lt
  have hneLH : W2.heap.size < W5.heap.size := by have := b5.size; omega
  have hL7 := hL.keep b47
  have hv4' := hv4.keep b47
  have b17 := ab_trans b14 b47
  clear hZ b5 b6 C7 own5 hl2 b47 hL hv4 b14 hw5
  have HCl := fun V (hV : Below W7.heap.size W7 V) => pcheck_any (lowP (.slice (some ⟨W1.heap.size, 0, none⟩) 1 1)) V (hv4'.keep hV).is
  have HCh := fun V (hV : Below W7.heap.size W7 V) => pcheck_any (highP (.slice (some ⟨W4.heap.size, 0, none⟩) 3 3)) V (hv7.keep hV).is
  have HNl := fun V (hV : Below W7.heap.size W7 V) => pnodes_any (lowP (.slice (some ⟨W1.heap.size, 0, none⟩) 1 1)) V (hv4'.keep hV).is
  have HNh := fun V (hV : Below W7.heap.size W7 V) => pnodes_any (highP (.slice (some ⟨W4.heap.size, 0, none⟩) 3 3)) V (hv7.keep hV).is
  have HLh := fun V (hV : Below W7.heap.size W7 V) => planes_any (highP (.slice (some ⟨W4.heap.size, 0, none⟩) 3 3)) V (hv7.keep hV).is
  rw [low_good, if_pos rfl] at HCl
  rw [high_good, if_pos rfl] at HCh
  rw [low_n] at HNl
  rw [high_n] at HNh
  rw [high_l] at HLh
  have c : Below W7.heap.size W7 W7 := Below.refl _ _
  have m1 : True := trivial
  have m2 : True := trivial
  have m3 : True := trivial
  go_upto_region 7 with (first
    | (refine lw_pn (p := lowP (.slice (some ⟨W1.heap.size, 0, none⟩) 1 1)) rfl rfl rfl (hL7.keep c) ?_)
    | (refine lw_pn (p := highP (.slice (some ⟨W4.heap.size, 0, none⟩) 3 3)) rfl rfl rfl (hH.keep c) ?_)
    | (refine valS rfl _ (ne19_nil _) ?_)
    | (go_at_call 9; clear m1; refine (HCl _ c).mono ?_; rintro e V ⟨rfl, d⟩; replace c := ab_trans c d; clear d)
    | (go_at_call 9; clear m2; refine (HCh _ c).mono ?_; rintro e V ⟨rfl, d⟩; replace c := ab_trans c d; clear d)
    | (go_at_call 12; clear m3; refine (HNl _ c).mono ?_; rintro e V ⟨rfl, d⟩; replace c := ab_trans c d; clear d)
    | (go_at_call 12; refine (HNh _ c).mono ?_; rintro e V ⟨rfl, d⟩; replace c := ab_trans c d; clear d)
    | (go_at_call 11; refine (HLh _ c).mono ?_; rintro e V ⟨rfl, d⟩; replace c := ab_trans c d; clear d))
  have hLV := hL7.keep c
  have hHV := hH.keep c
  have hvl := hv4'.keep c
  have hvh := hv7.keep c
  have b1V := ab_trans b17 c
  have hWV := ab_trans b1 b1V
  have hW1 : W.heap.size ≤ W1.heap.size := b1.size
  have h14 : W1.heap.size < W4.heap.size := hl4
  have hlb : W1.heap.size ≤ W2.heap.size ∧ W1.heap.size ≤ W5.heap.size ∧ W2.heap.size < V.heap.size ∧ W5.heap.size < V.heap.size := ⟨hlt1, by omega, hLV.lt, hHV.lt⟩
  clear HCl HCh HNl HNh HLh hL7 hH hv4' hv7 b17 c b1 hlt1
  generalize W2.heap.size = bl at *
  generalize W5.heap.size = bh at *
  generalize W1.heap.size = h1 at *
  generalize W4.heap.size = h4 at *
  go_upto_region 8 with fail
  rw [hD]
  clear hD hby
  obtain ⟨A, hAe, hS, hA⟩ := blk1 V #[.pointer (some ⟨bl, 0, none⟩), .pointer (some ⟨bh, 0, none⟩)] 46
  have hR0 : Rnd W.heap.size bl bh V.heap.size h1 h4 0 A := ⟨fun _ => hLV.keep hA, fun _ => hHV.keep hA, hS, fun _ => hvl.keep hA, fun _ => hvh.keep hA⟩
  have hWA := ab_trans hWV hA
  obtain ⟨bs, hbs⟩ : ∃ bs, bs = V.heap.size := ⟨_, rfl⟩
  go_wp2_with fail
  clear hS hA hWV hLV hHV hvl hvh b1V
  rw [← hbs] at hR0 ⊢
  have hblh : bl < bh ∧ bl < bs ∧ bh < bs ∧ W.heap.size ≤ bl ∧ W.heap.size ≤ bh := by omega
  clear hAe hbs hlb hneLH hW1
  go_loopw [46] (fun iv wr => ∃ k : Nat, k ≤ 2 ∧ iv = .int .i64 (k : Int) ∧ Rnd W.heap.size bl bh bs h1 h4 k wr ∧ Below W.heap.size W wr) (fun iv _ => 2 - (intOf iv).toNat)
  case atStart => exact ⟨0, by omega, rfl, hR0, hWA⟩
  case round =>
    clear hR0 hWA
    obtain ⟨k, hk, rfl, hR, hb⟩ := hrel
    have s0 : wr.cell? ⟨bs, 0, none⟩ = some (.pointer (some ⟨bl, 0, none⟩)) := hR.ps.at rfl
    have s1 : wr.cell? ⟨bs, 1, none⟩ = some (.pointer (some ⟨bh, 0, none⟩)) := hR.ps.at rfl
    rcases (show k = 2 ∨ k = 0 ∨ k = 1 by omega) with rfl | rfl | rfl
    · go_wp2_with fail
      go_ret
      exact ⟨rfl, hb⟩
    · have hB := hR.lo rfl
      have HR : Hid (Rnd W.heap.size bl bh bs h1 h4 0 wr) := hR
      clear hR hk
      go_upto_region 16 with fail
      clear s0 s1
      rcases (show K = 0 ∨ K = 1 ∨ K = 2 ∨ K = 3 ∨ K = 4 ∨ K = 5 ∨ K = 6 ∨ K = 7 by omega) with rfl | rfl | rfl | rfl | rfl | rfl | rfl | rfl
      · as_aux_lemma =>
        have y0 : wr.cell? ⟨bl, 0, none⟩ = some (.int .i64 1) := hB.at rfl
        have z0 := hB.frozen 0
        go_upto_region 32 with fail
        obtain ⟨V2, hV2⟩ : ∃ V2, wr.setCell ⟨bl, 0, none⟩ (.int .i64 (1 + -(D : Int))) = V2 := ⟨_, rfl⟩
        have hB2 : Blk V2 bl (pnC (⟨1 + -(D : Int), 1, .slice (some ⟨h1, 0, none⟩) 1 1, [1], 1, 1, 1, 1, 1⟩ : Pn)) 24 := hV2 ▸ hB.set 0 (.int .i64 (1 + -(D : Int)))
        have hC2 : Chg bl wr V2 := hV2 ▸ chg_set _ _ _ _
        have hI2 := Io.chgP (HR.out.il rfl) hB hC2
        rw [hV2]
        clear hV2 hB y0 z0
        have hg2 : gdP (⟨1 + -(D : Int), 1, .slice (some ⟨h1, 0, none⟩) 1 1, [1], 1, 1, 1, 1, 1⟩ : Pn) = false := gd_not (by dsimp only; omega)
        obtain ⟨HC, HN, HL⟩ := bad3 (p := (⟨1 + -(D : Int), 1, .slice (some ⟨h1, 0, none⟩) 1 1, [1], 1, 1, 1, 1, 1⟩ : Pn)) hg2 hI2.is
        have c : Below V2.heap.size V2 V2 := Below.refl _ _
        have E14 := ne19_both
        have hWn := hblh.2.2.2.1
        clear hI2 hg2
        go_wp2_with (first
          | (refine lw_pn (p := (⟨1 + -(D : Int), 1, .slice (some ⟨h1, 0, none⟩) 1 1, [1], 1, 1, 1, 1, 1⟩ : Pn)) rfl rfl rfl (hB2.keep c) ?_)
          | (go_at_call 9; refine (HC _ c).mono ?_; rintro e V ⟨rfl, d⟩; replace c := ab_trans c d; clear d)
          | (go_at_call 12; refine (HN _ c).mono ?_; rintro e V ⟨rfl, d⟩; replace c := ab_trans c d; clear d)
          | (go_at_call 11; refine (HL _ c).mono ?_; rintro e V ⟨rfl, d⟩; replace c := ab_trans c d; clear d))
        go_roundw
        case rel => exact ⟨1, by omega, by go_num, (HR.out.next0 hC2 hblh.1 hblh.2.1).keep c, ab_trans (ab_chg hb hC2 hWn) c⟩
        case measure => simp [intOf]
      · as_aux_lemma =>
        have y0 : wr.cell? ⟨bl, 1, none⟩ = some (.int .i64 1) := hB.at rfl
        have z0 := hB.frozen 1
        go_upto_region 32 with fail
        obtain ⟨V2, hV2⟩ : ∃ V2, wr.setCell ⟨bl, 1, none⟩ (.int .i64 (1 + 2 * -(D : Int))) = V2 := ⟨_, rfl⟩
        have hB2 : Blk V2 bl (pnC (⟨1, 1 + 2 * -(D : Int), .slice (some ⟨h1, 0, none⟩) 1 1, [1], 1, 1, 1, 1, 1⟩ : Pn)) 24 := hV2 ▸ hB.set 1 (.int .i64 (1 + 2 * -(D : Int)))
        have hC2 : Chg bl wr V2 := hV2 ▸ chg_set _ _ _ _
        have hI2 := Io.chgP (HR.out.il rfl) hB hC2
        rw [hV2]
        clear hV2 hB y0 z0
        have hg2 : gdP (⟨1, 1 + 2 * -(D : Int), .slice (some ⟨h1, 0, none⟩) 1 1, [1], 1, 1, 1, 1, 1⟩ : Pn) = false := gd_not (by dsimp only; omega)
        obtain ⟨HC, HN, HL⟩ := bad3 (p := (⟨1, 1 + 2 * -(D : Int), .slice (some ⟨h1, 0, none⟩) 1 1, [1], 1, 1, 1, 1, 1⟩ : Pn)) hg2 hI2.is
        have c : Below V2.heap.size V2 V2 := Below.refl _ _
        have E14 := ne19_both
        have hWn := hblh.2.2.2.1
        clear hI2 hg2
        go_wp2_with (first
          | (refine lw_pn (p := (⟨1, 1 + 2 * -(D : Int), .slice (some ⟨h1, 0, none⟩) 1 1, [1], 1, 1, 1, 1, 1⟩ : Pn)) rfl rfl rfl (hB2.keep c) ?_)
          | (go_at_call 9; refine (HC _ c).mono ?_; rintro e V ⟨rfl, d⟩; replace c := ab_trans c d; clear d)
          | (go_at_call 12; refine (HN _ c).mono ?_; rintro e V ⟨rfl, d⟩; replace c := ab_trans c d; clear d)
          | (go_at_call 11; refine (HL _ c).mono ?_; rintro e V ⟨rfl, d⟩; replace c := ab_trans c d; clear d))
        go_roundw
        case rel => exact ⟨1, by omega, by go_num, (HR.out.next0 hC2 hblh.1 hblh.2.1).keep c, ab_trans (ab_chg hb hC2 hWn) c⟩
        case measure => simp [intOf]
      · as_aux_lemma =>
        have y2 : wr.cell? ⟨bl, 2, none⟩ = some (.slice (some ⟨h1, 0, none⟩) 1 1) := hB.at rfl
        go_upto_region 21 with fail
        refine region_L 9 (S := fun w' => Below wr.heap.size wr w') (by kernel_rfl) ((Below.refl _ _).drew) (fun hHeld => ?_)
        have d2 : ∀ w', Below wr.heap.size wr w' → w'.cell? ⟨bl, 2, none⟩ = some (.slice (some ⟨h1, 0, none⟩) 1 1) := fun w' hb => keep_cell hb y2 hB.lt
        clear y2
        generalize wr.drew = V at *
        refine takeP (i := 0) (some 90) (by rfl) rfl rfl (by kernel_rfl) (by kernel_rfl) (by kernel_rfl) (fun _ _ _ h => h) (by rfl) (fun w => by go_simp; try rfl) hHeld ?_
        go_frame
        refine takeP (i := 1) (some 91) (by rfl) rfl rfl (by kernel_rfl) (by kernel_rfl) (by kernel_rfl) (fun _ _ _ h => h) (by rfl) (fun w => by go_simp; try rfl) hHeld ?_
        go_frame
        refine takeP (i := 2) (some 92) (by rfl) rfl rfl (by kernel_rfl) (by kernel_rfl) (by kernel_rfl) (fun _ _ _ h => h) (by rfl) (fun w => by go_simp; try rfl) hHeld ?_
        go_frame
        refine takeP (i := 3) (some 93) (by rfl) rfl rfl (by kernel_rfl) (by kernel_rfl) (by kernel_rfl) (fun _ _ _ h => h) (by rfl) (fun w => by go_simp; try rfl) hHeld ?_
        go_frame
        refine takeP (i := 5) (some 95) (by rfl) rfl rfl (by kernel_rfl) (by kernel_rfl) (by kernel_rfl) (fun _ _ _ h => h) (by rfl) (fun w => by go_simp; try rfl) hHeld ?_
        go_frame
        refine takeP (i := 6) (some 96) (by rfl) rfl rfl (by kernel_rfl) (by kernel_rfl) (by kernel_rfl) (fun _ _ _ h => h) (by rfl) (fun w => by go_simp; try rfl) hHeld ?_
        go_frame
        refine takeP (i := 7) (some 97) (by rfl) rfl rfl (by kernel_rfl) (by kernel_rfl) (by kernel_rfl) (fun _ _ _ h => h) (by rfl) (fun w => by go_simp; try rfl) hHeld ?_
        go_frame
        refine takeL (i := 4) [9] (some 94) (by rfl) rfl rfl (by kernel_rfl) (by kernel_rfl) (by kernel_rfl) (by kernel_rfl) (fun _ _ _ h => h) (by rfl) (fun w hSw => by (try dsimp only at hSw); (have hcc := d2 _ hSw; go_simp; try rfl)) hHeld ?_
        go_frame
        refine takeL (i := 8) [9] (some 98) (by rfl) rfl rfl (by kernel_rfl) (by kernel_rfl) (by kernel_rfl) (by kernel_rfl) (fun _ _ _ h => h) (by rfl) (fun w hSw => by (try dsimp only at hSw); (have hcc := d2 _ hSw; go_simp; try rfl)) hHeld ?_
        go_frame
        have hIV := (HR.out.il rfl).keep hHeld
        have hne : bl ≠ h1 := fun e => absurd (hB.kindR.uniq (e ▸ own_kindR (HR.out.il rfl) rfl)) (by decide)
        have hWn := hblh.2.2.2.1
        refine anyL_ready (rs := [9]) (by kernel_rfl) (by simp) (AllL.last rfl (by kernel_rfl) (fun K hK => ?_))
        rw [if_pos (by rfl)]
        refine appiW W (some 99) rfl rfl rfl (n := 1) (k := 1) hIV rfl hIV.is rfl (by omega) (ab_trans hb hHeld) ?_
        intro v5 W5 own5 nn5 b5 gr5
        refine hK.out _ _ ?_
        clear hK K
        have hF5 : Frm (fun k => k = bl ∨ k = h1) wr W5 := (frm_below hHeld).trans (frm_grown gr5 (.inr rfl))
        have hB5 := (hB.keep hHeld).frm (X := fun k => k = h1) (frm_grown gr5 rfl) hne
        have e5 : ∃ q5 c5, v5 = .slice q5 2 c5 := (own_is own5).form
        obtain ⟨q5, c5, rfl⟩ := e5
        have d5 : W5.cell? ⟨bl, 2, none⟩ = some _ := hB5.at rfl
        have f5 := hB5.frozen 2
        clear hHeld hIV d2 nn5 gr5 hB hne
        try go_frame
        refine anyL_ready (rs := [10]) (by kernel_rfl) (by simp) (AllL.free rfl (by kernel_rfl) (fun K hK => ?_))
        go_simp
        refine hK.out _ _ ?_
        clear hK K
        try go_frame
        refine anyL_ready (rs := [11]) (by kernel_rfl) (by simp) (AllL.free rfl (by kernel_rfl) (fun K hK => ?_))
        go_simp
        refine hK.out _ _ ?_
        clear hK K
        try go_frame
        refine anyL_ready (rs := [12]) (by kernel_rfl) (by simp) (AllL.free rfl (by kernel_rfl) (fun K hK => ?_))
        go_simp
        refine hK.out _ _ ?_
        clear hK K
        refine anyL_done (by kernel_rfl) ?_
        obtain ⟨W6, hV6⟩ : ∃ V2, W5.setCell ⟨bl, 2, none⟩ (.slice q5 2 c5) = V2 := ⟨_, rfl⟩
        rw [hV6]
        have hB6 : Blk W6 bl (pnC (⟨1, 1, .slice q5 2 c5, [1, 1], 1, 1, 1, 1, 1⟩ : Pn)) 24 := hV6 ▸ hB5.set 2 (.slice q5 2 c5)
        have hC6 : Chg bl W5 W6 := hV6 ▸ chg_set _ _ _ _
        have hI6 := Io.chgP (io_of own5) hB5 hC6
        have hF6 : Frm (fun k => k = bl ∨ k = h1) wr W6 := hF5.trans (frm_chg hC6 (.inl rfl))
        have b6 := ab_chg b5 hC6 hWn
        clear hV6 hC6 own5 b5 hB5 d5 f5 hF5
        have d6 : W6.cell? ⟨bl, 2, none⟩ = some _ := hB6.at rfl
        go_upto_region 23 with fail
        go_upto_region 32 with (refine bs_own rfl rfl [1, 1 - (D : Int)] (by simp only [List.map_toArray, List.map_cons, List.map_nil]; rfl) (isl2 _ _ _) rfl (by decide) ?_; intro W7 own7 b7 z7; clear z7; have d7 := keep_cell b7 d6 hB6.lt; have f7 := (hB6.keep b7).frozen 2)
        have hB7 := hB6.keep b7
        generalize W6.heap.size = g7 at own7
        obtain ⟨V2, hV2⟩ : ∃ V2, W7.setCell ⟨bl, 2, none⟩ (.slice (some ⟨g7, 0, none⟩) 2 2) = V2 := ⟨_, rfl⟩
        rw [hV2]
        have hB2 : Blk V2 bl (pnC (⟨1, 1, .slice (some ⟨g7, 0, none⟩) 2 2, [1, 1 - (D : Int)], 1, 1, 1, 1, 1⟩ : Pn)) 24 := hV2 ▸ hB7.set 2 (.slice (some ⟨g7, 0, none⟩) 2 2)
        have hC2 : Chg bl W7 V2 := hV2 ▸ chg_set _ _ _ _
        have hI2 := Io.chgP (io_of own7) hB7 hC2
        have hF2 : Frm (fun k => k = bl ∨ k = h1) wr V2 := (hF6.trans (frm_below b7)).trans (frm_chg hC2 (.inl rfl))
        have b2 := ab_chg (ab_trans b6 b7) hC2 hWn
        clear hV2 hB7 hB6 hC2 own7 b6 b7 hF6 hI6 d6 d7 f7
        have hg2 : gdP (⟨1, 1, .slice (some ⟨g7, 0, none⟩) 2 2, [1, 1 - (D : Int)], 1, 1, 1, 1, 1⟩ : Pn) = false := gd_not (by rintro ⟨-, -, h3, h4, -⟩; have := h4 (1 - (D : Int)) (by simp); omega)
        obtain ⟨HC, HN, HL⟩ := bad3 (p := (⟨1, 1, .slice (some ⟨g7, 0, none⟩) 2 2, [1, 1 - (D : Int)], 1, 1, 1, 1, 1⟩ : Pn)) hg2 hI2.is
        have c : Below V2.heap.size V2 V2 := Below.refl _ _
        have E14 := ne19_both
        have hWn := hblh.2.2.2.1
        clear hI2 hg2
        go_wp2_with (first
          | (refine lw_pn (p := (⟨1, 1, .slice (some ⟨g7, 0, none⟩) 2 2, [1, 1 - (D : Int)], 1, 1, 1, 1, 1⟩ : Pn)) rfl rfl rfl (hB2.keep c) ?_)
          | (go_at_call 9; refine (HC _ c).mono ?_; rintro e V ⟨rfl, d⟩; replace c := ab_trans c d; clear d)
          | (go_at_call 12; refine (HN _ c).mono ?_; rintro e V ⟨rfl, d⟩; replace c := ab_trans c d; clear d)
          | (go_at_call 11; refine (HL _ c).mono ?_; rintro e V ⟨rfl, d⟩; replace c := ab_trans c d; clear d))
        go_roundw
        case rel => exact ⟨1, by omega, by go_num, (HR.out.next0f hF2 hblh.1 hblh.2.1 h14).keep c, ab_trans (b2) c⟩
        case measure => simp [intOf]
      · as_aux_lemma =>
        have y0 : wr.cell? ⟨bl, 3, none⟩ = some (.int .i64 1) := hB.at rfl
        have z0 := hB.frozen 3
        go_upto_region 32 with fail
        obtain ⟨V2, hV2⟩ : ∃ V2, wr.setCell ⟨bl, 3, none⟩ (.int .i64 (1 + -(D : Int))) = V2 := ⟨_, rfl⟩
        have hB2 : Blk V2 bl (pnC (⟨1, 1, .slice (some ⟨h1, 0, none⟩) 1 1, [1], 1 + -(D : Int), 1, 1, 1, 1⟩ : Pn)) 24 := hV2 ▸ hB.set 3 (.int .i64 (1 + -(D : Int)))
        have hC2 : Chg bl wr V2 := hV2 ▸ chg_set _ _ _ _
        have hI2 := Io.chgP (HR.out.il rfl) hB hC2
        rw [hV2]
        clear hV2 hB y0 z0
        have hg2 : gdP (⟨1, 1, .slice (some ⟨h1, 0, none⟩) 1 1, [1], 1 + -(D : Int), 1, 1, 1, 1⟩ : Pn) = false := gd_not (by dsimp only; omega)
        obtain ⟨HC, HN, HL⟩ := bad3 (p := (⟨1, 1, .slice (some ⟨h1, 0, none⟩) 1 1, [1], 1 + -(D : Int), 1, 1, 1, 1⟩ : Pn)) hg2 hI2.is
        have c : Below V2.heap.size V2 V2 := Below.refl _ _
        have E14 := ne19_both
        have hWn := hblh.2.2.2.1
        clear hI2 hg2
        go_wp2_with (first
          | (refine lw_pn (p := (⟨1, 1, .slice (some ⟨h1, 0, none⟩) 1 1, [1], 1 + -(D : Int), 1, 1, 1, 1⟩ : Pn)) rfl rfl rfl (hB2.keep c) ?_)
          | (go_at_call 9; refine (HC _ c).mono ?_; rintro e V ⟨rfl, d⟩; replace c := ab_trans c d; clear d)
          | (go_at_call 12; refine (HN _ c).mono ?_; rintro e V ⟨rfl, d⟩; replace c := ab_trans c d; clear d)
          | (go_at_call 11; refine (HL _ c).mono ?_; rintro e V ⟨rfl, d⟩; replace c := ab_trans c d; clear d))
        go_roundw
        case rel => exact ⟨1, by omega, by go_num, (HR.out.next0 hC2 hblh.1 hblh.2.1).keep c, ab_trans (ab_chg hb hC2 hWn) c⟩
        case measure => simp [intOf]
      · as_aux_lemma =>
        have y0 : wr.cell? ⟨bl, 4, none⟩ = some (.int .i64 1) := hB.at rfl
        have z0 := hB.frozen 4
        go_upto_region 32 with fail
        obtain ⟨V2, hV2⟩ : ∃ V2, wr.setCell ⟨bl, 4, none⟩ (.int .i64 (1 + -(D : Int))) = V2 := ⟨_, rfl⟩
        have hB2 : Blk V2 bl (pnC (⟨1, 1, .slice (some ⟨h1, 0, none⟩) 1 1, [1], 1, 1 + -(D : Int), 1, 1, 1⟩ : Pn)) 24 := hV2 ▸ hB.set 4 (.int .i64 (1 + -(D : Int)))
        have hC2 : Chg bl wr V2 := hV2 ▸ chg_set _ _ _ _
        have hI2 := Io.chgP (HR.out.il rfl) hB hC2
        rw [hV2]
        clear hV2 hB y0 z0
        have hg2 : gdP (⟨1, 1, .slice (some ⟨h1, 0, none⟩) 1 1, [1], 1, 1 + -(D : Int), 1, 1, 1⟩ : Pn) = false := gd_not (by dsimp only; omega)
        obtain ⟨HC, HN, HL⟩ := bad3 (p := (⟨1, 1, .slice (some ⟨h1, 0, none⟩) 1 1, [1], 1, 1 + -(D : Int), 1, 1, 1⟩ : Pn)) hg2 hI2.is
        have c : Below V2.heap.size V2 V2 := Below.refl _ _
        have E14 := ne19_both
        have hWn := hblh.2.2.2.1
        clear hI2 hg2
        go_wp2_with (first
          | (refine lw_pn (p := (⟨1, 1, .slice (some ⟨h1, 0, none⟩) 1 1, [1], 1, 1 + -(D : Int), 1, 1, 1⟩ : Pn)) rfl rfl rfl (hB2.keep c) ?_)
          | (go_at_call 9; refine (HC _ c).mono ?_; rintro e V ⟨rfl, d⟩; replace c := ab_trans c d; clear d)
          | (go_at_call 12; refine (HN _ c).mono ?_; rintro e V ⟨rfl, d⟩; replace c := ab_trans c d; clear d)
          | (go_at_call 11; refine (HL _ c).mono ?_; rintro e V ⟨rfl, d⟩; replace c := ab_trans c d; clear d))
        go_roundw
        case rel => exact ⟨1, by omega, by go_num, (HR.out.next0 hC2 hblh.1 hblh.2.1).keep c, ab_trans (ab_chg hb hC2 hWn) c⟩
        case measure => simp [intOf]
      · as_aux_lemma =>
        have y0 : wr.cell? ⟨bl, 5, none⟩ = some (.int .i64 1) := hB.at rfl
        have z0 := hB.frozen 5
        go_upto_region 32 with fail
        obtain ⟨V2, hV2⟩ : ∃ V2, wr.setCell ⟨bl, 5, none⟩ (.int .i64 (1 + -(D : Int))) = V2 := ⟨_, rfl⟩
        have hB2 : Blk V2 bl (pnC (⟨1, 1, .slice (some ⟨h1, 0, none⟩) 1 1, [1], 1, 1, 1 + -(D : Int), 1, 1⟩ : Pn)) 24 := hV2 ▸ hB.set 5 (.int .i64 (1 + -(D : Int)))
        have hC2 : Chg bl wr V2 := hV2 ▸ chg_set _ _ _ _
        have hI2 := Io.chgP (HR.out.il rfl) hB hC2
        rw [hV2]
        clear hV2 hB y0 z0
        have hg2 : gdP (⟨1, 1, .slice (some ⟨h1, 0, none⟩) 1 1, [1], 1, 1, 1 + -(D : Int), 1, 1⟩ : Pn) = false := gd_not (by dsimp only; omega)
        obtain ⟨HC, HN, HL⟩ := bad3 (p := (⟨1, 1, .slice (some ⟨h1, 0, none⟩) 1 1, [1], 1, 1, 1 + -(D : Int), 1, 1⟩ : Pn)) hg2 hI2.is
        have c : Below V2.heap.size V2 V2 := Below.refl _ _
        have E14 := ne19_both
        have hWn := hblh.2.2.2.1
        clear hI2 hg2
        go_wp2_with (first
          | (refine lw_pn (p := (⟨1, 1, .slice (some ⟨h1, 0, none⟩) 1 1, [1], 1, 1, 1 + -(D : Int), 1, 1⟩ : Pn)) rfl rfl rfl (hB2.keep c) ?_)
          | (go_at_call 9; refine (HC _ c).mono ?_; rintro e V ⟨rfl, d⟩; replace c := ab_trans c d; clear d)
          | (go_at_call 12; refine (HN _ c).mono ?_; rintro e V ⟨rfl, d⟩; replace c := ab_trans c d; clear d)
          | (go_at_call 11; refine (HL _ c).mono ?_; rintro e V ⟨rfl, d⟩; replace c := ab_trans c d; clear d))
        go_roundw
        case rel => exact ⟨1, by omega, by go_num, (HR.out.next0 hC2 hblh.1 hblh.2.1).keep c, ab_trans (ab_chg hb hC2 hWn) c⟩
        case measure => simp [intOf]
      · as_aux_lemma =>
        have y0 : wr.cell? ⟨bl, 6, none⟩ = some (.int .i64 1) := hB.at rfl
        have z0 := hB.frozen 6
        go_upto_region 32 with fail
        obtain ⟨V2, hV2⟩ : ∃ V2, wr.setCell ⟨bl, 6, none⟩ (.int .i64 (1 + -(D : Int))) = V2 := ⟨_, rfl⟩
        have hB2 : Blk V2 bl (pnC (⟨1, 1, .slice (some ⟨h1, 0, none⟩) 1 1, [1], 1, 1, 1, 1 + -(D : Int), 1⟩ : Pn)) 24 := hV2 ▸ hB.set 6 (.int .i64 (1 + -(D : Int)))
        have hC2 : Chg bl wr V2 := hV2 ▸ chg_set _ _ _ _
        have hI2 := Io.chgP (HR.out.il rfl) hB hC2
        rw [hV2]
        clear hV2 hB y0 z0
        have hg2 : gdP (⟨1, 1, .slice (some ⟨h1, 0, none⟩) 1 1, [1], 1, 1, 1, 1 + -(D : Int), 1⟩ : Pn) = false := gd_not (by dsimp only; omega)
        obtain ⟨HC, HN, HL⟩ := bad3 (p := (⟨1, 1, .slice (some ⟨h1, 0, none⟩) 1 1, [1], 1, 1, 1, 1 + -(D : Int), 1⟩ : Pn)) hg2 hI2.is
        have c : Below V2.heap.size V2 V2 := Below.refl _ _
        have E14 := ne19_both
        have hWn := hblh.2.2.2.1
        clear hI2 hg2
        go_wp2_with (first
          | (refine lw_pn (p := (⟨1, 1, .slice (some ⟨h1, 0, none⟩) 1 1, [1], 1, 1, 1, 1 + -(D : Int), 1⟩ : Pn)) rfl rfl rfl (hB2.keep c) ?_)
          | (go_at_call 9; refine (HC _ c).mono ?_; rintro e V ⟨rfl, d⟩; replace c := ab_trans c d; clear d)
          | (go_at_call 12; refine (HN _ c).mono ?_; rintro e V ⟨rfl, d⟩; replace c := ab_trans c d; clear d)
          | (go_at_call 11; refine (HL _ c).mono ?_; rintro e V ⟨rfl, d⟩; replace c := ab_trans c d; clear d))
        go_roundw
        case rel => exact ⟨1, by omega, by go_num, (HR.out.next0 hC2 hblh.1 hblh.2.1).keep c, ab_trans (ab_chg hb hC2 hWn) c⟩
        case measure => simp [intOf]
      · as_aux_lemma =>
        have y0 : wr.cell? ⟨bl, 7, none⟩ = some (.int .i64 1) := hB.at rfl
        have z0 := hB.frozen 7
        go_upto_region 32 with fail
        obtain ⟨V2, hV2⟩ : ∃ V2, wr.setCell ⟨bl, 7, none⟩ (.int .i64 (1 + -(D : Int))) = V2 := ⟨_, rfl⟩
        have hB2 : Blk V2 bl (pnC (⟨1, 1, .slice (some ⟨h1, 0, none⟩) 1 1, [1], 1, 1, 1, 1, 1 + -(D : Int)⟩ : Pn)) 24 := hV2 ▸ hB.set 7 (.int .i64 (1 + -(D : Int)))
        have hC2 : Chg bl wr V2 := hV2 ▸ chg_set _ _ _ _
        have hI2 := Io.chgP (HR.out.il rfl) hB hC2
        rw [hV2]
        clear hV2 hB y0 z0
        have hg2 : gdP (⟨1, 1, .slice (some ⟨h1, 0, none⟩) 1 1, [1], 1, 1, 1, 1, 1 + -(D : Int)⟩ : Pn) = false := gd_not (by dsimp only; omega)
        obtain ⟨HC, HN, HL⟩ := bad3 (p := (⟨1, 1, .slice (some ⟨h1, 0, none⟩) 1 1, [1], 1, 1, 1, 1, 1 + -(D : Int)⟩ : Pn)) hg2 hI2.is
        have c : Below V2.heap.size V2 V2 := Below.refl _ _
        have E14 := ne19_both
        have hWn := hblh.2.2.2.1
        clear hI2 hg2
        go_wp2_with (first
          | (refine lw_pn (p := (⟨1, 1, .slice (some ⟨h1, 0, none⟩) 1 1, [1], 1, 1, 1, 1, 1 + -(D : Int)⟩ : Pn)) rfl rfl rfl (hB2.keep c) ?_)
          | (go_at_call 9; refine (HC _ c).mono ?_; rintro e V ⟨rfl, d⟩; replace c := ab_trans c d; clear d)
          | (go_at_call 12; refine (HN _ c).mono ?_; rintro e V ⟨rfl, d⟩; replace c := ab_trans c d; clear d)
          | (go_at_call 11; refine (HL _ c).mono ?_; rintro e V ⟨rfl, d⟩; replace c := ab_trans c d; clear d))
        go_roundw
        case rel => exact ⟨1, by omega, by go_num, (HR.out.next0 hC2 hblh.1 hblh.2.1).keep c, ab_trans (ab_chg hb hC2 hWn) c⟩
        case measure => simp [intOf]
    · have hB := hR.hi (by omega)
      have HR : Hid (Rnd W.heap.size bl bh bs h1 h4 1 wr) := hR
      clear hR hk
      go_upto_region 16 with fail
      clear s0 s1
      rcases (show K = 0 ∨ K = 1 ∨ K = 2 ∨ K = 3 ∨ K = 4 ∨ K = 5 ∨ K = 6 ∨ K = 7 by omega) with rfl | rfl | rfl | rfl | rfl | rfl | rfl | rfl
      · as_aux_lemma =>
        have y0 : wr.cell? ⟨bh, 0, none⟩ = some (.int .i64 4) := hB.at rfl
        have z0 := hB.frozen 0
        go_upto_region 32 with fail
        obtain ⟨V2, hV2⟩ : ∃ V2, wr.setCell ⟨bh, 0, none⟩ (.int .i64 (4 + (D : Int))) = V2 := ⟨_, rfl⟩
        have hB2 : Blk V2 bh (pnC (⟨4 + (D : Int), 5, .slice (some ⟨h4, 0, none⟩) 3 3, [9223372036854775807, 1, 7], 4, 64, 1024, 16, 20⟩ : Pn)) 24 := hV2 ▸ hB.set 0 (.int .i64 (4 + (D : Int)))
        have hC2 : Chg bh wr V2 := hV2 ▸ chg_set _ _ _ _
        have hI2 := Io.chgP (HR.out.ih (by omega)) hB hC2
        rw [hV2]
        clear hV2 hB y0 z0
        have hg2 : gdP (⟨4 + (D : Int), 5, .slice (some ⟨h4, 0, none⟩) 3 3, [9223372036854775807, 1, 7], 4, 64, 1024, 16, 20⟩ : Pn) = false := gd_not (by dsimp only; omega)
        obtain ⟨HC, HN, HL⟩ := bad3 (p := (⟨4 + (D : Int), 5, .slice (some ⟨h4, 0, none⟩) 3 3, [9223372036854775807, 1, 7], 4, 64, 1024, 16, 20⟩ : Pn)) hg2 hI2.is
        have c : Below V2.heap.size V2 V2 := Below.refl _ _
        have E14 := ne19_both
        have hWn := hblh.2.2.2.2
        clear hI2 hg2
        go_wp2_with (first
          | (refine lw_pn (p := (⟨4 + (D : Int), 5, .slice (some ⟨h4, 0, none⟩) 3 3, [9223372036854775807, 1, 7], 4, 64, 1024, 16, 20⟩ : Pn)) rfl rfl rfl (hB2.keep c) ?_)
          | (go_at_call 9; refine (HC _ c).mono ?_; rintro e V ⟨rfl, d⟩; replace c := ab_trans c d; clear d)
          | (go_at_call 12; refine (HN _ c).mono ?_; rintro e V ⟨rfl, d⟩; replace c := ab_trans c d; clear d)
          | (go_at_call 11; refine (HL _ c).mono ?_; rintro e V ⟨rfl, d⟩; replace c := ab_trans c d; clear d))
        go_roundw
        case rel => exact ⟨2, by omega, by go_num, (HR.out.next1 hC2 hblh.2.2.1).keep c, ab_trans (ab_chg hb hC2 hWn) c⟩
        case measure => simp [intOf]
      · as_aux_lemma =>
        have y0 : wr.cell? ⟨bh, 1, none⟩ = some (.int .i64 5) := hB.at rfl
        have z0 := hB.frozen 1
        go_upto_region 32 with fail
        obtain ⟨V2, hV2⟩ : ∃ V2, wr.setCell ⟨bh, 1, none⟩ (.int .i64 (5 + 2 * (D : Int))) = V2 := ⟨_, rfl⟩
        have hB2 : Blk V2 bh (pnC (⟨4, 5 + 2 * (D : Int), .slice (some ⟨h4, 0, none⟩) 3 3, [9223372036854775807, 1, 7], 4, 64, 1024, 16, 20⟩ : Pn)) 24 := hV2 ▸ hB.set 1 (.int .i64 (5 + 2 * (D : Int)))
        have hC2 : Chg bh wr V2 := hV2 ▸ chg_set _ _ _ _
        have hI2 := Io.chgP (HR.out.ih (by omega)) hB hC2
        rw [hV2]
        clear hV2 hB y0 z0
        have hg2 : gdP (⟨4, 5 + 2 * (D : Int), .slice (some ⟨h4, 0, none⟩) 3 3, [9223372036854775807, 1, 7], 4, 64, 1024, 16, 20⟩ : Pn) = false := gd_not (by dsimp only; omega)
        obtain ⟨HC, HN, HL⟩ := bad3 (p := (⟨4, 5 + 2 * (D : Int), .slice (some ⟨h4, 0, none⟩) 3 3, [9223372036854775807, 1, 7], 4, 64, 1024, 16, 20⟩ : Pn)) hg2 hI2.is
        have c : Below V2.heap.size V2 V2 := Below.refl _ _
        have E14 := ne19_both
        have hWn := hblh.2.2.2.2
        clear hI2 hg2
        go_wp2_with (first
          | (refine lw_pn (p := (⟨4, 5 + 2 * (D : Int), .slice (some ⟨h4, 0, none⟩) 3 3, [9223372036854775807, 1, 7], 4, 64, 1024, 16, 20⟩ : Pn)) rfl rfl rfl (hB2.keep c) ?_)
          | (go_at_call 9; refine (HC _ c).mono ?_; rintro e V ⟨rfl, d⟩; replace c := ab_trans c d; clear d)
          | (go_at_call 12; refine (HN _ c).mono ?_; rintro e V ⟨rfl, d⟩; replace c := ab_trans c d; clear d)
          | (go_at_call 11; refine (HL _ c).mono ?_; rintro e V ⟨rfl, d⟩; replace c := ab_trans c d; clear d))
        go_roundw
        case rel => exact ⟨2, by omega, by go_num, (HR.out.next1 hC2 hblh.2.2.1).keep c, ab_trans (ab_chg hb hC2 hWn) c⟩
        case measure => simp [intOf]
      · as_aux_lemma =>
        have y2 : wr.cell? ⟨bh, 2, none⟩ = some (.slice (some ⟨h4, 0, none⟩) 3 3) := hB.at rfl
        go_upto_region 21 with fail
        refine region_L 9 (S := fun w' => Below wr.heap.size wr w') (by kernel_rfl) ((Below.refl _ _).drew) (fun hHeld => ?_)
        have d2 : ∀ w', Below wr.heap.size wr w' → w'.cell? ⟨bh, 2, none⟩ = some (.slice (some ⟨h4, 0, none⟩) 3 3) := fun w' hb => keep_cell hb y2 hB.lt
        clear y2
        generalize wr.drew = V at *
        refine takeP (i := 0) (some 90) (by rfl) rfl rfl (by kernel_rfl) (by kernel_rfl) (by kernel_rfl) (fun _ _ _ h => h) (by rfl) (fun w => by go_simp; try rfl) hHeld ?_
        go_frame
        refine takeP (i := 1) (some 91) (by rfl) rfl rfl (by kernel_rfl) (by kernel_rfl) (by kernel_rfl) (fun _ _ _ h => h) (by rfl) (fun w => by go_simp; try rfl) hHeld ?_
        go_frame
        refine takeP (i := 2) (some 92) (by rfl) rfl rfl (by kernel_rfl) (by kernel_rfl) (by kernel_rfl) (fun _ _ _ h => h) (by rfl) (fun w => by go_simp; try rfl) hHeld ?_
        go_frame
        refine takeP (i := 3) (some 93) (by rfl) rfl rfl (by kernel_rfl) (by kernel_rfl) (by kernel_rfl) (fun _ _ _ h => h) (by rfl) (fun w => by go_simp; try rfl) hHeld ?_
        go_frame
        refine takeP (i := 5) (some 95) (by rfl) rfl rfl (by kernel_rfl) (by kernel_rfl) (by kernel_rfl) (fun _ _ _ h => h) (by rfl) (fun w => by go_simp; try rfl) hHeld ?_
        go_frame
        refine takeP (i := 6) (some 96) (by rfl) rfl rfl (by kernel_rfl) (by kernel_rfl) (by kernel_rfl) (fun _ _ _ h => h) (by rfl) (fun w => by go_simp; try rfl) hHeld ?_
        go_frame
        refine takeP (i := 7) (some 97) (by rfl) rfl rfl (by kernel_rfl) (by kernel_rfl) (by kernel_rfl) (fun _ _ _ h => h) (by rfl) (fun w => by go_simp; try rfl) hHeld ?_
        go_frame
        refine takeL (i := 4) [9] (some 94) (by rfl) rfl rfl (by kernel_rfl) (by kernel_rfl) (by kernel_rfl) (by kernel_rfl) (fun _ _ _ h => h) (by rfl) (fun w hSw => by (try dsimp only at hSw); (have hcc := d2 _ hSw; go_simp; try rfl)) hHeld ?_
        go_frame
        refine takeL (i := 8) [9] (some 98) (by rfl) rfl rfl (by kernel_rfl) (by kernel_rfl) (by kernel_rfl) (by kernel_rfl) (fun _ _ _ h => h) (by rfl) (fun w hSw => by (try dsimp only at hSw); (have hcc := d2 _ hSw; go_simp; try rfl)) hHeld ?_
        go_frame
        have hIV := (HR.out.ih (by omega)).keep hHeld
        have hne : bh ≠ h4 := fun e => absurd (hB.kindR.uniq (e ▸ own_kindR (HR.out.ih (by omega)) rfl)) (by decide)
        have hWn := hblh.2.2.2.2
        refine anyL_ready (rs := [9]) (by kernel_rfl) (by simp) (AllL.last rfl (by kernel_rfl) (fun K hK => ?_))
        rw [if_pos (by rfl)]
        refine appiW W (some 99) rfl rfl rfl (n := 3) (k := 3) hIV rfl hIV.is rfl (by omega) (ab_trans hb hHeld) ?_
        intro v5 W5 own5 nn5 b5 gr5
        refine hK.out _ _ ?_
        clear hK K
        have hF5 : Frm (fun k => k = bh ∨ k = h4) wr W5 := (frm_below hHeld).trans (frm_grown gr5 (.inr rfl))
        have hB5 := (hB.keep hHeld).frm (X := fun k => k = h4) (frm_grown gr5 rfl) hne
        have e5 : ∃ q5 c5, v5 = .slice q5 6 c5 := (own_is own5).form
        obtain ⟨q5, c5, rfl⟩ := e5
        have d5 : W5.cell? ⟨bh, 2, none⟩ = some _ := hB5.at rfl
        have f5 := hB5.frozen 2
        clear hHeld hIV d2 nn5 gr5 hB hne
        try go_frame
        refine anyL_ready (rs := [10]) (by kernel_rfl) (by simp) (AllL.free rfl (by kernel_rfl) (fun K hK => ?_))
        go_simp
        refine hK.out _ _ ?_
        clear hK K
        try go_frame
        refine anyL_ready (rs := [11]) (by kernel_rfl) (by simp) (AllL.free rfl (by kernel_rfl) (fun K hK => ?_))
        go_simp
        refine hK.out _ _ ?_
        clear hK K
        try go_frame
        refine anyL_ready (rs := [12]) (by kernel_rfl) (by simp) (AllL.free rfl (by kernel_rfl) (fun K hK => ?_))
        go_simp
        refine hK.out _ _ ?_
        clear hK K
        refine anyL_done (by kernel_rfl) ?_
        obtain ⟨V2, hV6⟩ : ∃ V2, W5.setCell ⟨bh, 2, none⟩ (.slice q5 6 c5) = V2 := ⟨_, rfl⟩
        rw [hV6]
        have hB6 : Blk V2 bh (pnC (⟨4, 5, .slice q5 6 c5, [9223372036854775807, 1, 7, 9223372036854775807, 1, 7], 4, 64, 1024, 16, 20⟩ : Pn)) 24 := hV6 ▸ hB5.set 2 (.slice q5 6 c5)
        have hC6 : Chg bh W5 V2 := hV6 ▸ chg_set _ _ _ _
        have hI6 := Io.chgP (io_of own5) hB5 hC6
        have hF6 : Frm (fun k => k = bh ∨ k = h4) wr V2 := hF5.trans (frm_chg hC6 (.inl rfl))
        have b6 := ab_chg b5 hC6 hWn
        clear hV6 hC6 own5 b5 hB5 d5 f5 hF5
        go_upto_region 32 with fail
        have hB2 := hB6
        have hI2 := hI6
        have hF2 := hF6
        have b2 := b6
        clear hF6 hI6 b6 hB6
        have hg2 : gdP (⟨4, 5, .slice q5 6 c5, [9223372036854775807, 1, 7, 9223372036854775807, 1, 7], 4, 64, 1024, 16, 20⟩ : Pn) = false := gd_not (by rintro ⟨-, -, h3, h4, -⟩; simp at h3)
        obtain ⟨HC, HN, HL⟩ := bad3 (p := (⟨4, 5, .slice q5 6 c5, [9223372036854775807, 1, 7, 9223372036854775807, 1, 7], 4, 64, 1024, 16, 20⟩ : Pn)) hg2 hI2.is
        have c : Below V2.heap.size V2 V2 := Below.refl _ _
        have E14 := ne19_both
        have hWn := hblh.2.2.2.2
        clear hI2 hg2
        go_wp2_with (first
          | (refine lw_pn (p := (⟨4, 5, .slice q5 6 c5, [9223372036854775807, 1, 7, 9223372036854775807, 1, 7], 4, 64, 1024, 16, 20⟩ : Pn)) rfl rfl rfl (hB2.keep c) ?_)
          | (go_at_call 9; refine (HC _ c).mono ?_; rintro e V ⟨rfl, d⟩; replace c := ab_trans c d; clear d)
          | (go_at_call 12; refine (HN _ c).mono ?_; rintro e V ⟨rfl, d⟩; replace c := ab_trans c d; clear d)
          | (go_at_call 11; refine (HL _ c).mono ?_; rintro e V ⟨rfl, d⟩; replace c := ab_trans c d; clear d))
        go_roundw
        case rel => exact ⟨2, by omega, by go_num, (HR.out.next1f hF2 hblh.2.2.1).keep c, ab_trans (b2) c⟩
        case measure => simp [intOf]
      · as_aux_lemma =>
        have y0 : wr.cell? ⟨bh, 3, none⟩ = some (.int .i64 4) := hB.at rfl
        have z0 := hB.frozen 3
        go_upto_region 32 with fail
        obtain ⟨V2, hV2⟩ : ∃ V2, wr.setCell ⟨bh, 3, none⟩ (.int .i64 (4 + (D : Int))) = V2 := ⟨_, rfl⟩
        have hB2 : Blk V2 bh (pnC (⟨4, 5, .slice (some ⟨h4, 0, none⟩) 3 3, [9223372036854775807, 1, 7], 4 + (D : Int), 64, 1024, 16, 20⟩ : Pn)) 24 := hV2 ▸ hB.set 3 (.int .i64 (4 + (D : Int)))
        have hC2 : Chg bh wr V2 := hV2 ▸ chg_set _ _ _ _
        have hI2 := Io.chgP (HR.out.ih (by omega)) hB hC2
        rw [hV2]
        clear hV2 hB y0 z0
        have hg2 : gdP (⟨4, 5, .slice (some ⟨h4, 0, none⟩) 3 3, [9223372036854775807, 1, 7], 4 + (D : Int), 64, 1024, 16, 20⟩ : Pn) = false := gd_not (by dsimp only; omega)
        obtain ⟨HC, HN, HL⟩ := bad3 (p := (⟨4, 5, .slice (some ⟨h4, 0, none⟩) 3 3, [9223372036854775807, 1, 7], 4 + (D : Int), 64, 1024, 16, 20⟩ : Pn)) hg2 hI2.is
        have c : Below V2.heap.size V2 V2 := Below.refl _ _
        have E14 := ne19_both
        have hWn := hblh.2.2.2.2
        clear hI2 hg2
        go_wp2_with (first
          | (refine lw_pn (p := (⟨4, 5, .slice (some ⟨h4, 0, none⟩) 3 3, [9223372036854775807, 1, 7], 4 + (D : Int), 64, 1024, 16, 20⟩ : Pn)) rfl rfl rfl (hB2.keep c) ?_)
          | (go_at_call 9; refine (HC _ c).mono ?_; rintro e V ⟨rfl, d⟩; replace c := ab_trans c d; clear d)
          | (go_at_call 12; refine (HN _ c).mono ?_; rintro e V ⟨rfl, d⟩; replace c := ab_trans c d; clear d)
          | (go_at_call 11; refine (HL _ c).mono ?_; rintro e V ⟨rfl, d⟩; replace c := ab_trans c d; clear d))
        go_roundw
        case rel => exact ⟨2, by omega, by go_num, (HR.out.next1 hC2 hblh.2.2.1).keep c, ab_trans (ab_chg hb hC2 hWn) c⟩
        case measure => simp [intOf]
      · as_aux_lemma =>
        have y0 : wr.cell? ⟨bh, 4, none⟩ = some (.int .i64 64) := hB.at rfl
        have z0 := hB.frozen 4
        go_upto_region 32 with fail
        obtain ⟨V2, hV2⟩ : ∃ V2, wr.setCell ⟨bh, 4, none⟩ (.int .i64 (64 + (D : Int))) = V2 := ⟨_, rfl⟩
        have hB2 : Blk V2 bh (pnC (⟨4, 5, .slice (some ⟨h4, 0, none⟩) 3 3, [9223372036854775807, 1, 7], 4, 64 + (D : Int), 1024, 16, 20⟩ : Pn)) 24 := hV2 ▸ hB.set 4 (.int .i64 (64 + (D : Int)))
        have hC2 : Chg bh wr V2 := hV2 ▸ chg_set _ _ _ _
        have hI2 := Io.chgP (HR.out.ih (by omega)) hB hC2
        rw [hV2]
        clear hV2 hB y0 z0
        have hg2 : gdP (⟨4, 5, .slice (some ⟨h4, 0, none⟩) 3 3, [9223372036854775807, 1, 7], 4, 64 + (D : Int), 1024, 16, 20⟩ : Pn) = false := gd_not (by dsimp only; omega)
        obtain ⟨HC, HN, HL⟩ := bad3 (p := (⟨4, 5, .slice (some ⟨h4, 0, none⟩) 3 3, [9223372036854775807, 1, 7], 4, 64 + (D : Int), 1024, 16, 20⟩ : Pn)) hg2 hI2.is
        have c : Below V2.heap.size V2 V2 := Below.refl _ _
        have E14 := ne19_both
        have hWn := hblh.2.2.2.2
        clear hI2 hg2
        go_wp2_with (first
          | (refine lw_pn (p := (⟨4, 5, .slice (some ⟨h4, 0, none⟩) 3 3, [9223372036854775807, 1, 7], 4, 64 + (D : Int), 1024, 16, 20⟩ : Pn)) rfl rfl rfl (hB2.keep c) ?_)
          | (go_at_call 9; refine (HC _ c).mono ?_; rintro e V ⟨rfl, d⟩; replace c := ab_trans c d; clear d)
          | (go_at_call 12; refine (HN _ c).mono ?_; rintro e V ⟨rfl, d⟩; replace c := ab_trans c d; clear d)
          | (go_at_call 11; refine (HL _ c).mono ?_; rintro e V ⟨rfl, d⟩; replace c := ab_trans c d; clear d))
        go_roundw
        case rel => exact ⟨2, by omega, by go_num, (HR.out.next1 hC2 hblh.2.2.1).keep c, ab_trans (ab_chg hb hC2 hWn) c⟩
        case measure => simp [intOf]
      · as_aux_lemma =>
        have y0 : wr.cell? ⟨bh, 5, none⟩ = some (.int .i64 1024) := hB.at rfl
        have z0 := hB.frozen 5
        go_upto_region 32 with fail
        obtain ⟨V2, hV2⟩ : ∃ V2, wr.setCell ⟨bh, 5, none⟩ (.int .i64 (1024 + (D : Int))) = V2 := ⟨_, rfl⟩
        have hB2 : Blk V2 bh (pnC (⟨4, 5, .slice (some ⟨h4, 0, none⟩) 3 3, [9223372036854775807, 1, 7], 4, 64, 1024 + (D : Int), 16, 20⟩ : Pn)) 24 := hV2 ▸ hB.set 5 (.int .i64 (1024 + (D : Int)))
        have hC2 : Chg bh wr V2 := hV2 ▸ chg_set _ _ _ _
        have hI2 := Io.chgP (HR.out.ih (by omega)) hB hC2
        rw [hV2]
        clear hV2 hB y0 z0
        have hg2 : gdP (⟨4, 5, .slice (some ⟨h4, 0, none⟩) 3 3, [9223372036854775807, 1, 7], 4, 64, 1024 + (D : Int), 16, 20⟩ : Pn) = false := gd_not (by dsimp only; omega)
        obtain ⟨HC, HN, HL⟩ := bad3 (p := (⟨4, 5, .slice (some ⟨h4, 0, none⟩) 3 3, [9223372036854775807, 1, 7], 4, 64, 1024 + (D : Int), 16, 20⟩ : Pn)) hg2 hI2.is
        have c : Below V2.heap.size V2 V2 := Below.refl _ _
        have E14 := ne19_both
        have hWn := hblh.2.2.2.2
        clear hI2 hg2
        go_wp2_with (first
          | (refine lw_pn (p := (⟨4, 5, .slice (some ⟨h4, 0, none⟩) 3 3, [9223372036854775807, 1, 7], 4, 64, 1024 + (D : Int), 16, 20⟩ : Pn)) rfl rfl rfl (hB2.keep c) ?_)
          | (go_at_call 9; refine (HC _ c).mono ?_; rintro e V ⟨rfl, d⟩; replace c := ab_trans c d; clear d)
          | (go_at_call 12; refine (HN _ c).mono ?_; rintro e V ⟨rfl, d⟩; replace c := ab_trans c d; clear d)
          | (go_at_call 11; refine (HL _ c).mono ?_; rintro e V ⟨rfl, d⟩; replace c := ab_trans c d; clear d))
        go_roundw
        case rel => exact ⟨2, by omega, by go_num, (HR.out.next1 hC2 hblh.2.2.1).keep c, ab_trans (ab_chg hb hC2 hWn) c⟩
        case measure => simp [intOf]
      · as_aux_lemma =>
        have y0 : wr.cell? ⟨bh, 6, none⟩ = some (.int .i64 16) := hB.at rfl
        have z0 := hB.frozen 6
        go_upto_region 32 with fail
        obtain ⟨V2, hV2⟩ : ∃ V2, wr.setCell ⟨bh, 6, none⟩ (.int .i64 (16 + (D : Int))) = V2 := ⟨_, rfl⟩
        have hB2 : Blk V2 bh (pnC (⟨4, 5, .slice (some ⟨h4, 0, none⟩) 3 3, [9223372036854775807, 1, 7], 4, 64, 1024, 16 + (D : Int), 20⟩ : Pn)) 24 := hV2 ▸ hB.set 6 (.int .i64 (16 + (D : Int)))
        have hC2 : Chg bh wr V2 := hV2 ▸ chg_set _ _ _ _
        have hI2 := Io.chgP (HR.out.ih (by omega)) hB hC2
        rw [hV2]
        clear hV2 hB y0 z0
        have hg2 : gdP (⟨4, 5, .slice (some ⟨h4, 0, none⟩) 3 3, [9223372036854775807, 1, 7], 4, 64, 1024, 16 + (D : Int), 20⟩ : Pn) = false := gd_not (by dsimp only; omega)
        obtain ⟨HC, HN, HL⟩ := bad3 (p := (⟨4, 5, .slice (some ⟨h4, 0, none⟩) 3 3, [9223372036854775807, 1, 7], 4, 64, 1024, 16 + (D : Int), 20⟩ : Pn)) hg2 hI2.is
        have c : Below V2.heap.size V2 V2 := Below.refl _ _
        have E14 := ne19_both
        have hWn := hblh.2.2.2.2
        clear hI2 hg2
        go_wp2_with (first
          | (refine lw_pn (p := (⟨4, 5, .slice (some ⟨h4, 0, none⟩) 3 3, [9223372036854775807, 1, 7], 4, 64, 1024, 16 + (D : Int), 20⟩ : Pn)) rfl rfl rfl (hB2.keep c) ?_)
          | (go_at_call 9; refine (HC _ c).mono ?_; rintro e V ⟨rfl, d⟩; replace c := ab_trans c d; clear d)
          | (go_at_call 12; refine (HN _ c).mono ?_; rintro e V ⟨rfl, d⟩; replace c := ab_trans c d; clear d)
          | (go_at_call 11; refine (HL _ c).mono ?_; rintro e V ⟨rfl, d⟩; replace c := ab_trans c d; clear d))
        go_roundw
        case rel => exact ⟨2, by omega, by go_num, (HR.out.next1 hC2 hblh.2.2.1).keep c, ab_trans (ab_chg hb hC2 hWn) c⟩
        case measure => simp [intOf]
      · as_aux_lemma =>
        have y0 : wr.cell? ⟨bh, 7, none⟩ = some (.int .i64 20) := hB.at rfl
        have z0 := hB.frozen 7
        go_upto_region 32 with fail
        obtain ⟨V2, hV2⟩ : ∃ V2, wr.setCell ⟨bh, 7, none⟩ (.int .i64 (20 + (D : Int))) = V2 := ⟨_, rfl⟩
        have hB2 : Blk V2 bh (pnC (⟨4, 5, .slice (some ⟨h4, 0, none⟩) 3 3, [9223372036854775807, 1, 7], 4, 64, 1024, 16, 20 + (D : Int)⟩ : Pn)) 24 := hV2 ▸ hB.set 7 (.int .i64 (20 + (D : Int)))
        have hC2 : Chg bh wr V2 := hV2 ▸ chg_set _ _ _ _
        have hI2 := Io.chgP (HR.out.ih (by omega)) hB hC2
        rw [hV2]
        clear hV2 hB y0 z0
        have hg2 : gdP (⟨4, 5, .slice (some ⟨h4, 0, none⟩) 3 3, [9223372036854775807, 1, 7], 4, 64, 1024, 16, 20 + (D : Int)⟩ : Pn) = false := gd_not (by dsimp only; omega)
        obtain ⟨HC, HN, HL⟩ := bad3 (p := (⟨4, 5, .slice (some ⟨h4, 0, none⟩) 3 3, [9223372036854775807, 1, 7], 4, 64, 1024, 16, 20 + (D : Int)⟩ : Pn)) hg2 hI2.is
        have c : Below V2.heap.size V2 V2 := Below.refl _ _
        have E14 := ne19_both
        have hWn := hblh.2.2.2.2
        clear hI2 hg2
        go_wp2_with (first
          | (refine lw_pn (p := (⟨4, 5, .slice (some ⟨h4, 0, none⟩) 3 3, [9223372036854775807, 1, 7], 4, 64, 1024, 16, 20 + (D : Int)⟩ : Pn)) rfl rfl rfl (hB2.keep c) ?_)
          | (go_at_call 9; refine (HC _ c).mono ?_; rintro e V ⟨rfl, d⟩; replace c := ab_trans c d; clear d)
          | (go_at_call 12; refine (HN _ c).mono ?_; rintro e V ⟨rfl, d⟩; replace c := ab_trans c d; clear d)
          | (go_at_call 11; refine (HL _ c).mono ?_; rintro e V ⟨rfl, d⟩; replace c := ab_trans c d; clear d))
        go_roundw
        case rel => exact ⟨2, by omega, by go_num, (HR.out.next1 hC2 hblh.2.2.1).keep c, ab_trans (ab_chg hb hC2 hWn) c⟩
        case measure => simp [intOf]
theorem own : ownKnob Try.prog.godebug = none := by kernel_rfl
theorem laidOut : laidOutB Try.prog = true := by kernel_rfl

set_option maxRecDepth 100000 in
theorem lifted (os : Os) (started : os.Started) (H : Type) (enc : TypeId × Value → H) :
    ReturnsInHanded {} Try.checked os 7 .any (Rows.planBoundsSpec.pre6 enc Try.prog Try.f7 Rows.planBoundsRow.domain false) (Rows.planBoundsSpec.post enc Try.prog Try.f7 false true false false) := by
  refine returnsInHanded_of_change (C := Try.checked) own started (by kernel_rfl) Try.func7
    (ChangeSpec.witness6 (enc := enc) (C := Try.checked) false ⟨#[], #[.int .i64 0, .int .i64 0], []⟩ 8 (by kernel_rfl) (by kernel_rfl) (by kernel_rfl) (by kernel_rfl)) ?_
  intro W base args ds gs before hval0 hW hcnd _
  have hval : ∀ (j : Nat) t v, Try.f7.params[j]? = some t → args[j]? = some v → Value.okWide Try.prog W .any base t v := hval0
  have hW' := hW
  obtain ⟨p, q, hA0, hV, rfl, hfz, hnd⟩ := hW
  have hA : DataW.TrodAll enc Try.prog W 0 (fun _ => true) true Try.f7.params.toList args.toList ds p := hA0
  rw [Try.params7] at hA hval
  obtain ⟨v0, vs0, d0, ds0, p0, q0, hargs, rfl, rfl, h0, r0⟩ := trodAll_cons hA
  obtain ⟨v1, vs1, d1, ds1, p1, q1, rfl, rfl, rfl, h1, r1⟩ := trodAll_cons r0
  obtain ⟨rfl, rfl, rfl⟩ := trodAll_nil r1
  obtain rfl : args = #[v0, v1] := by cases args; simp_all
  obtain ⟨rfl, rfl⟩ := trodVars_none hV
  have k0 := h0
  have lt0 : ∀ x ∈ p0, x.block < W.heap.size := by obtain ⟨m, hm⟩ := k0; exact DataW.trod_lt m _ _ _ hm
  have k1 := h1
  have lt1 : ∀ x ∈ p1, x.block < W.heap.size := by obtain ⟨m, hm⟩ := k1; exact DataW.trod_lt m _ _ _ hm
  obtain ⟨a0, rfl, rfl, rfl, w0⟩ := open_int Try.underlying3 (hval 0 3 v0 rfl rfl) h0
  obtain ⟨a1, rfl, rfl, rfl, w1⟩ := open_int Try.underlying3 (hval 1 3 v1 rfl rfl) h1
  clear hA0 hval0
  refine (walk a0 (bounds_i64 w0) a1 (bounds_i64 w1) W).mono fun e W' ⟨he, bel⟩ => ?_
  subst he
  exact ⟨_, rfl, _, _, _, [], _, [], hW', trodAll_mk1 (shut_bool Try.underlying4 _), (trodAll_cons_mk (Below.trod laidOut (by kernel_rfl) (of_decide_eq_true (by kernel_rfl)) k0 bel lt0) (trodAll_cons_mk (Below.trod laidOut (by kernel_rfl) (of_decide_eq_true (by kernel_rfl)) k1 bel lt1) trodAll_mk0)), rfl, bel.frame _, fun h => by cases h⟩

theorem over : Rows.planBoundsRow.holds Try.pinned (OpenSpec.ofChange Rows.planBoundsSpec) :=
  OpenClaim.holds_of_wide 7 Try.f7 rfl rfl rfl rfl rfl rfl rfl ⟨rfl, rfl, rfl, rfl, rfl⟩ rfl rfl rfl rfl rfl (by kernel_rfl) Try.func7 (by kernel_rfl)
    (of_decide_eq_true (by kernel_rfl)) (by unfold Func.isWrapper; first | (rw [if_pos (by decide +kernel)]; kernel_rfl) | (rw [if_neg (by decide +kernel)]; exact ⟨rfl, rfl⟩))
    (fun os started H enc _ => lifted os started H enc)

theorem proved : Rows.PlanBoundsSaid := over
end Go.Proofs.Ytnooedipanhkjaa.planBounds
namespace Go.Proofs.Ytnooedipanhkjaa
theorem planBounds_holds : Rows.PlanBoundsSaid := planBounds.proved
#print axioms planBounds_holds
end Go.Proofs.Ytnooedipanhkjaa
