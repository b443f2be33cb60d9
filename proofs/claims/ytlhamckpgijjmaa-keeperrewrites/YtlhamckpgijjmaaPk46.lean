/-
  Keeper: a register with what a note asks of it.
-/
import Derived.Test.YtlhamckpgijjmaaPk44
import Derived.Test.YtlhamckpgijjmaaPk45
namespace Go.Proofs.Ytlhamckpgijjmaa
open Go.RowKit
set_option linter.unusedVariables false
set_option maxRecDepth 100000

/-- The ballot that a question names; the register behind it, its error. -/
def qB (ns : List Int) : Bt := ⟨ns.getD 1 0, ns.getD 2 0, ns.getD 3 0⟩
def skR (k : Int) (r : Rg) (ns : List Int) : Rg := if k = 3 then acR r (qB ns) (ns.drop 4) else prR r (qB ns)
def skN (k : Int) (r : Rg) (ns : List Int) : Nat := if k = 3 then acN r (qB ns) (ns.drop 4) else prN r (qB ns)
theorem getD_drop1 (l : List Int) (i : Nat) : (l.drop 1).getD i 0 = l.getD (i + 1) 0 := by
  rw [List.getD_eq_getElem?_getD, List.getD_eq_getElem?_getD, List.getElem?_drop, Nat.add_comm]
set_option maxHeartbeats 2000000 in
theorem kasked_any (r : Rg) (rv : Value) (k f t : Int) (vn vo ve : Value) (ns : List Int) (w : World) (hr : Is w rv r.l) (hn : Is w vn ns) (h4 : 4 ≤ ns.length) (ho : ∃ q n c, vo = .slice q n c) (he : ∃ q n c, ve = .slice q n c) :
    Calls Try.prog 26 #[rV r.p r.a rv, .agg (ntC k f t vn vo ve)] w fun e w' => RgE w' w.heap.size (skR k r ns) (errV (skN k r ns)) e ∧ Below w.heap.size w w' := by
  obtain ⟨q2, n2, c2, rfl⟩ := ho
  obtain ⟨q3, n3, c3, rfl⟩ := he
  obtain ⟨q1, c1, e1⟩ := hn.form
  obtain ⟨n, hnn⟩ : ∃ n, ns.length = n := ⟨_, rfl⟩
  rw [hnn] at e1 h4
  subst e1
  obtain ⟨q4, c4, e4⟩ := hr.form
  obtain ⟨m, hmm⟩ : ∃ n, r.l.length = n := ⟨_, rfl⟩
  rw [hmm] at e4
  subst e4
  have HB : Hid (three ((ns.drop 1).getD 0 0) ((ns.drop 1).getD 1 0) ((ns.drop 1).getD 2 0) = bC (qB ns)) := by rw [getD_drop1, getD_drop1, getD_drop1]; rfl
  go_enter Try.func26, Try.ntmps26
  go_upto_region 1 with fail
  obtain ⟨A, hAe, hB1, hB2, hB3, bA⟩ := blk3 w (rC r.p r.a (.slice q4 m c4)) (ntC k f t (.slice q1 n c1) (.slice q2 n2 c2) (.slice q3 n3 c3)) (rC zB zB (.slice none 0 0)) 40 35 40
  rw [show ((w.alloc (.cells _ 40)).alloc (.cells _ 35)).alloc (.cells #[.int .i64 0, .int .i64 0, .int .i64 0, .int .i64 0, .int .i64 0, .int .i64 0, .slice none 0 0] 40) = A from hAe]
  clear hAe
  have inA := hn.keep bA
  have irA := hr.keep bA
  have hlt : w.heap.size + 1 + 1 < A.heap.size := hB3.lt
  go_cut [6] from 7 to 10 (fun x wc => ∃ g, x = .pointer (some ⟨g, 0, none⟩) ∧ A.heap.size ≤ g ∧ Blk wc g (bC (qB ns)) 38 ∧ Below A.heap.size A wc)
  case first =>
    have d3 := hB2.at (i := 3) rfl
    go_wp2_with (first
      | (refine sli_l A rfl rfl 1 rfl rfl rfl (by omega) inA ?_; intro q5 i5)
      | (go_at_call 41; refine (ballot_any _ (ns.drop 1) A i5).mono ?_; rintro e W1 ⟨rfl, b1⟩; rw [HB.out]; go_frame))
    have bN : Below W1.heap.size W1 (W1.alloc (.cells (bC (qB ns)) 38)) := (Below.refl _ _).alloc (Nat.le_refl _) _
    go_meet
    case rel => exact ⟨_, rfl, b1.size, Blk.new W1 _ _, ab_trans b1 bN⟩
  case rest =>
    obtain ⟨g, rfl, hg, hG, bc⟩ := hcut
    have hC1 := hB1.keep bc
    have hC2 := hB2.keep bc
    have hC3 := hB3.keep bc
    have inC := inA.keep bc
    have irC := irA.keep bc
    have d0 := hC2.at (i := 0) rfl
    have bW := ab_trans bA bc
    by_cases k3 : k = 3
    · have z3 : (k == 3) = true := by rw [k3]; rfl
      have HS : Hid (skR k r ns = acR r (qB ns) (ns.drop 4) ∧ skN k r ns = acN r (qB ns) (ns.drop 4)) := by unfold skR skN; rw [if_pos k3, if_pos k3]; exact ⟨rfl, rfl⟩
      clear k3
      go_upto_region 3 with fail
      clear d0
      obtain ⟨q5, e5⟩ := sliced_form q1 4 n c1
      have i5 : Is wc (.slice q5 (n - 4) (c1 - 4)) (ns.drop 4) := by
        have hl := inC.len
        have := inC.sub (i := 4) (j := n) (sc := c1) (by omega) (by omega) (Nat.le_refl _) (by omega) e5.symm
        rwa [List.take_of_length_le (by rw [List.length_drop]; omega)] at this
      have hc1 : n ≤ c1 := inC.len.2.1
      refine region_L 8 (S := fun w' => Below wc.heap.size wc w') (by kernel_rfl) ((Below.refl _ _).drew) (fun hHeld => ?_)
      have hdr : Below wc.heap.size wc wc.drew := hHeld
      generalize wc.drew = V0 at *
      refine takeL (i := 0) [5, 6, 8] (some 14) (by rfl) rfl rfl (by kernel_rfl) (by kernel_rfl) (by kernel_rfl) (by kernel_rfl) (fun _ _ _ h => h) (by rfl) (fun w hSw => by (try dsimp only at hSw); (have hh := hC1.keep hSw; have t0 := hh.at (i := 0) rfl; have t1 := hh.at (i := 1) rfl; have t2 := hh.at (i := 2) rfl; have t3 := hh.at (i := 3) rfl; have t4 := hh.at (i := 4) rfl; have t5 := hh.at (i := 5) rfl; have t6 := hh.at (i := 6) rfl; go_simp; try rfl)) hHeld ?_
      go_frame
      refine takeL (i := 1) [5, 6, 8] (some 15) (by rfl) rfl rfl (by kernel_rfl) (by kernel_rfl) (by kernel_rfl) (by kernel_rfl) (fun _ _ _ h => h) (by rfl) (fun w hSw => by (try dsimp only at hSw); (have hh := hG.keep hSw; have t0 := hh.at (i := 0) rfl; have t1 := hh.at (i := 1) rfl; have t2 := hh.at (i := 2) rfl; go_simp; try rfl)) hHeld ?_
      go_frame
      refine takeP (i := 2) (some 16) (by rfl) rfl rfl (by kernel_rfl) (by kernel_rfl) (by kernel_rfl) (fun _ _ _ h => h) (by rfl) (fun w => by go_simp; try rfl) hHeld ?_
      go_frame
      refine takeL (i := 3) [4, 5, 6, 8] (some 17) (by rfl) rfl rfl (by kernel_rfl) (by kernel_rfl) (by kernel_rfl) (by kernel_rfl) (fun _ _ _ h => h) (by rfl) (fun w hSw => by (try dsimp only at hSw); (have hh := hC2.keep hSw; have t3 := hh.at (i := 3) rfl; go_simp; try rfl)) hHeld ?_
      go_frame
      refine takeP (i := 4) (some 18) (by rfl) rfl rfl (by kernel_rfl) (by kernel_rfl) (by kernel_rfl) (fun _ _ _ h => h) (by rfl) (fun w => by exact (sli_l_run (i := 4) rfl rfl rfl rfl (by omega) (by omega)).trans (by rw [e5])) hHeld ?_
      go_frame
      refine anyL_ready (rs := [5]) (by kernel_rfl) (by simp) (AllL.cons rfl (fun K hK => ?_) AllL.nil)
      go_simp
      refine (accept_any r (qB ns) (.slice q4 m c4) (.slice q5 (n - 4) (c1 - 4)) (ns.drop 4) V0 (irC.keep hdr) (i5.keep hdr)).mono ?_
      rintro e W2 ⟨⟨q6, n6, c6, rfl, O6, hn6⟩, b2⟩
      show K _ _
      have hb2 := ab_trans hdr b2
      have hD3 := hC3.keep hb2
      refine hK.out _ _ hb2 (fun hHeld => ?_)
      clear hK K
      try go_frame
      refine takeP (i := 6) (some 20) (by rfl) rfl rfl (by kernel_rfl) (by kernel_rfl) (by kernel_rfl) (fun _ _ _ h => h) (by rfl) (fun w => by go_simp; try rfl) hHeld ?_
      go_frame
      refine takeP (i := 7) (some 21) (by rfl) rfl rfl (by kernel_rfl) (by kernel_rfl) (by kernel_rfl) (fun _ _ _ h => h) (by rfl) (fun w => by go_simp; try rfl) hHeld ?_
      go_frame
      refine anyL_ready (rs := [8]) (by kernel_rfl) (by simp) (AllL.last rfl (by kernel_rfl) (fun K hK => ?_))
      rw [if_pos (by rfl)]
      refine stW none rfl rfl hD3 rfl rfl (info_rg (acR r (qB ns) (ns.drop 4)).p (acR r (qB ns) (ns.drop 4)).a (.slice q6 n6 c6)) rfl (rg_one _ _ _ _ _) fun W5 hB5 C5 => ?_
      refine hK.out _ _ ?_
      clear hK K
      try go_frame
      refine anyL_ready (rs := [9]) (by kernel_rfl) (by simp) (AllL.free rfl (by kernel_rfl) (fun K hK => ?_))
      go_simp
      refine hK.out _ _ ?_
      clear hK K
      refine anyL_done (by kernel_rfl) ?_
      go_wp2_with fail
      exact bodyPost_ret (results_c2 rfl _ _ _ 40 _ (0, 0) _ _ rfl rfl hB5 Try.underlying40 rfl (info_rg _ _ _)) rfl ⟨by rw [HS.out.1, HS.out.2]; exact ⟨q6, n6, c6, rfl, (io_chg O6 C5 (Nat.lt_of_lt_of_le hC3.lt hdr.size)).less (Nat.le_trans bW.size hdr.size), hn6⟩, ab_chg (ab_trans bW hb2) C5 (by omega)⟩
    · have z3 : (k == 3) = false := by simp [k3]
      have HS : Hid (skR k r ns = prR r (qB ns) ∧ skN k r ns = prN r (qB ns)) := by unfold skR skN; rw [if_neg k3, if_neg k3]; exact ⟨rfl, rfl⟩
      clear k3
      have t0 := hC1.at (i := 0) rfl
      have t1 := hC1.at (i := 1) rfl
      have t2 := hC1.at (i := 2) rfl
      have t3 := hC1.at (i := 3) rfl
      have t4 := hC1.at (i := 4) rfl
      have t5 := hC1.at (i := 5) rfl
      have t6 := hC1.at (i := 6) rfl
      have u0 := hG.at (i := 0) rfl
      have u1 := hG.at (i := 1) rfl
      have u2' := hG.at (i := 2) rfl
      go_wp2_with fail
      refine (prepare_any r (qB ns) (.slice q4 m c4) _ irC).mono ?_
      rintro e W2 ⟨⟨q6, n6, c6, rfl, O6, hn6⟩, b2⟩
      have hD3 := hC3.keep b2
      clear t0 t1 t2 t3 t4 t5 t6 u0 u1 u2' d0
      go_wp2_with (refine st_rg rfl rfl (p1 := (prR r (qB ns)).p) (a1 := (prR r (qB ns)).a) hD3 rfl rfl ?_; intro W5 hB5 C5)
      exact bodyPost_ret (results_c2 rfl _ _ _ 40 _ (0, 0) _ _ rfl rfl hB5 Try.underlying40 rfl (info_rg _ _ _)) rfl ⟨by rw [HS.out.1, HS.out.2]; exact ⟨q6, n6, c6, rfl, (io_chg O6 C5 hC3.lt).less bW.size, hn6⟩, ab_chg (ab_trans bW b2) C5 (by omega)⟩
end Go.Proofs.Ytlhamckpgijjmaa
